import PyProof.Rows.All
import Wide.All
import OpenK.AllK
import Wide.FinOn
import Lean
import PyProof.EqAt
import PyProof.EqKinds
import PyProof.TupleCall
import PySem.Challenge.RW_lotdraw_k48_whole_no_rule_catches_more
set_option Elab.async false
set_option linter.all false
set_option maxRecDepth 100000
set_option tactic.hygienic false
noncomputable section
namespace L2
open PySem
def jm (s:Stmt):Arguments:=match s with
 | .FunctionDef _ a _ _ _ _ _ _ _ _=>a
 | _=>{ posonlyargs:=[],args:=[],vararg:=none,kwonlyargs:=[],kw_defaults:=[],kwarg:=none,defaults:=[] }
def eI (s:Stmt):List Stmt:=match s with
 | .FunctionDef _ _ b _ _ _ _ _ _ _=>b
 | _=>[]
def aq (s:Stmt):Scope:=match s with
 | .FunctionDef _ _ _ _ _ _ sc _ _ _=>sc
 | _=>{ kind:=.function,names:=[],isGenerator:=false,isCoroutine:=false }
end L2
namespace Hd
open PySem PySem.W
def xp (tb:String->Option Builtin) (p:Program) (w:World) (m:Nat) (ann:Option Value):Nat->SharedT->Thread->Option SharedT
 | 0,_,_=>none
 | n + 1,s,t=>match through t with
   | true=>some s
   | false=>match stepOk m ann t with
     | false=>none
     | true=>match stepT (denote tb) p w s t with
       | some (s',t')=>xp tb p w m ann n s' t'
       | none=>none
theorem zj {tb:String->Option Builtin} {p:Program} {w:World} {m:Nat} {ann:Option Value}:∀ {n:Nat} {s s':SharedT} {t:Thread},xp tb p w m ann n s t=some s'->topRun tb p w m ann n s.abs t=some s'.abs
 | 0,_,_,_,h=>by cases h
 | n + 1,s,s',t,h=>by
   unfold xp at h
   unfold topRun
   cases he:through t with
   | true=>rw [he] at h; cases h; rfl
   | false=>
     rw [he] at h
     cases hk:stepOk m ann t with
     | false=>rw [hk] at h; cases h
     | true=>
       rw [hk] at h
       cases hs:stepT (denote tb) p w s t with
       | none=>rw [hs] at h; cases h
       | some r=>obtain ⟨s2,t2⟩:=r; rw [hs] at h; rw [stepT_spec hs]; exact zj h
def BR (P:Params):BT:=(.node (boot_o_0 P) (.node (boot_o_1 P) (.node (boot_o_3 P) (.node (boot_o_7 P) .nil .nil) .nil) (.node (boot_o_5 P) (.node (boot_o_9 P) .nil .nil) .nil)) (.node (boot_o_2 P) (.node (boot_o_4 P) (.node (boot_o_8 P) .nil .nil) .nil) (.node (boot_o_6 P) (.node (boot_o_10 P) .nil .nil) .nil)))
theorem boot_abs (P:Params):boot_heap P=absHeap (BR P) 11 (boot_heap P).life:=by kernel_rfl
def uR (w:World) (os:OsState):SharedT:=⟨BR w.params,11,(boot_heap w.params).life,Array.mk [],boot_drawn,boot_toks,os⟩
theorem E9 (w:World) (os:OsState):(uR w os).abs=⟨boot_heap w.params,Array.mk [],boot_drawn,boot_toks,os⟩:=by
 show Shared.mk (absHeap (BR w.params) 11 (boot_heap w.params).life) _ _ _ _=_
 rw [<- boot_abs]; rfl
theorem Aw (P:Params):((boot_heap P).isNs mainGlobals,(boot_heap P).objs.size,(boot_heap P).nsMap mainGlobals "__annotations__")=(true,11,some (.ref 6)):=by kernel_rfl
theorem Ax {p q:Program} {loose:List Str} {Xt:Shared->Bool} {α:Type} {Yf:Shared->α} {Ya:World->α} {N:Nat} (e:opening p=plainProg p.main.scope.names) (hN:Nat.ble 600 N=true) (f:∀ s,fenceModules? p s=some s)
  (one:∀ (w:World) (os:OsState),(xp treeTable p w 11 (some (.ref 6)) N (uR w os) (topStub p)).map (fun s=>((staticsOk (importedModules p.main.body) (boot_heap w.params) s.abs.heap && namesBound p s.abs.heap && gensDone s.abs && laidKept (boot_heap w.params) s.abs.heap),Yf s.abs))=some (true,Ya w))
  (two:∀ (w:World) (os:OsState),(xp treeTable p w 11 (some (.ref 6)) N (uR w os) (topStub p)).map (fun s=>openSeen q loose (importedModules p.main.body) Xt true s.abs)=some (openGood q loose)):
  LeftO p q loose Xt Yf Ya N:=fun w=>by
 obtain ⟨⟨h,gs,d,k,os⟩,e1,e2⟩:=Option.map_eq_some_iff.mp (boot_open e hN f w)
 obtain ⟨rfl,rfl,rfl,rfl⟩:h=boot_heap w.params /\ gs=Array.mk [] /\ d=boot_drawn /\ k=boot_toks:=by simpa using e2
 obtain ⟨s,r,l⟩:=Option.map_eq_some_iff.mp (one w os)
 obtain ⟨l1,l3⟩:_ /\ _:=by simpa only [Prod.mk.injEq] using l
 have l2:openSeen q loose (importedModules p.main.body) Xt true s.abs=openGood q loose:=by
  have:=two w os
  rw [r] at this
  exact Option.some.inj this
 obtain ⟨z1,z2,z3⟩:_ /\ _ /\ _:=by simpa only [Prod.mk.injEq] using Aw w.params
 have r':=zj r
 rw [E9] at r'
 have t:topFrom treeTable p w N ⟨boot_heap w.params,Array.mk [],boot_drawn,boot_toks,os⟩=some s.abs:=by
  unfold topFrom
  dsimp only
  rw [z1,z2,z3,r']
  show (match staticsOk (importedModules p.main.body) (boot_heap w.params) s.abs.heap && namesBound p s.abs.heap && gensDone s.abs && laidKept (boot_heap w.params) s.abs.heap with | true=>_ | false=>_)=_
  rw [l1]
 unfold openEnds
 rw [e1]
 show (topFrom treeTable p w N ⟨boot_heap w.params,Array.mk [],boot_drawn,boot_toks,os⟩).map _=_
 rw [t,Option.map_some,l2,l3]
end Hd
namespace aF
open PySem PySem.W L2
def top (i:Nat):Stmt:=PySem.Challenge.pw_lotdraw_k48_whole_no_rule_catches_more.main.body.getD i (.Pass ⟨0,0,0,0⟩)
def uS:Program:={ PySem.Challenge.pw_lotdraw_k48_whole_no_rule_catches_more with main:={ PySem.Challenge.pw_lotdraw_k48_whole_no_rule_catches_more.main with body:=[top 1,top 2,top 3,top 5,top 6,top 7,top 8,top 9,top 10,top 11,top 12,top 13,top 14,top 15,top 16,top 18,top 19,top 20,top 21,top 22,top 23,top 25,top 26,top 27,top 29,top 31,top 32,top 33,top 34,top 35,top 36,top 37,top 38,top 39,top 41,top 42,top 43,top 44,top 45,top 46,top 47,top 48,top 49,top 50,top 51,top 52,top 53,top 54,top 55,top 56,top 57,top 58] } }
abbrev ent (P:Params) (k:Str) (n:Nat) (v:Value):DictEntry:=⟨PyData.keyHash P k,.str k n,v⟩
abbrev k7 (P:Params):=fun x0 x1 x2 x3 x4 x5 x6 x7 x8 x9 OV XT XU=>(⟨(.type "code"),none,(.fields #[(.str x0 x1),(.str x0 x2),(.str "/claim/cut.py" x3),(.int x4 0),(.int x5 0),(.int 0 0),(.int 0 0),(.int 3 0),(.ref x6),(.bool true),(.int 181 0),(.ref x7),.none,(.ref x8),(.ref x9),(.ref OV),(.int XT 0),(.int x4 0),(.str "/claim/cut.py" XU)]),#[]⟩:Obj)
abbrev gQ (P:Params):=fun x0 x1 x2 x3 x4=>(⟨(.type "function"),none,.func (fnOf x0 x0 (jm (top x1)) (eI (top x1)) (aq (top x1)) .none .none .none (.str x2 x3) none (.ref x4) .none),#[]⟩:Obj)
abbrev nq (P:Params):=fun x0 x1 x2 x3 x4 x5 x6 x7 x8 x9 OV=>(⟨(.type "code"),none,(.fields #[(.str x0 x1),(.str x0 x2),(.str "/claim/cut.py" x3),(.int x4 0),(.int x5 0),(.int 0 0),(.int 0 0),(.int 3 0),(.ref x6),(.bool true),(.int 181 0),(.ref x7),.none,.none,.none,(.ref x8),(.int x9 0),(.int x4 0),(.str "/claim/cut.py" OV)]),#[]⟩:Obj)
def LX:Params->Frag:=fun P=>(nat_lit 2,⟨.none,none,(.dict #[] 0),#[]⟩) ::
 (nat_lit 3,⟨(.type "dict"),none,(.dict #[(ent P "__name__" 165 (.str "law_lotdraw_k48_whole_no_rule_catches_more" 495)),(ent P "__doc__" 166 .none),(ent P "__package__" 167 .none),(ent P "__loader__" 168 (.builtin "__main__.__loader__#opaque")),(ent P "__spec__" 169 .none),(ent P "__annotations__" 170 (.ref 6)),(ent P "__builtins__" 171 (.ref 4)),(ent P "__file__" 173 (.str "/claim/cut.py" 172)),(ent P "__cached__" 174 .none),(ent P "LotError" 206 (.ref 24)),(ent P "NoNumber" 222 (.ref 37)),(ent P "NoShares" 238 (.ref 49)),(ent P "LONG" 242 (.int 4000 241)),(ent P "WINDOW" 244 (.int 240 243)),(ent P "SHED" 246 (.int 120 245)),(ent P "frac" 255 (.ref 58)),(ent P "plus" 267 (.ref 65)),(ent P "minus" 275 (.ref 72)),(ent P "times" 285 (.ref 79)),(ent P "over" 293 (.ref 86)),(ent P "power" 304 (.ref 93)),(ent P "under" 312 (.ref 100)),(ent P "greatest_divisor" 322 (.ref 107)),(ent P "leap" 335 (.ref 114)),(ent P "goes_on" 346 (.ref 121)),(ent P "come_to" 352 (.ref 126)),(ent P "ends" 358 (.ref 131)),(ent P "drawn_on" 364 (.ref 136)),(ent P "led_to" 370 (.ref 141)),(ent P "after" 378 (.ref 148)),(ent P "NOUGHT" 383 (.ref 149)),(ent P "common_bottom" 392 (.ref 156)),(ent P "tops_over" 398 (.ref 161)),(ent P "ways_from" 412 (.ref 168)),(ent P "WHOLE" 417 (.ref 169)),(ent P "ratio" 426 (.ref 176)),(ent P "rule_by_ratio" 440 (.ref 183)),(ent P "check_shares" 448 (.ref 190)),(ent P "check_most" 455 (.ref 197)),(ent P "often" 465 (.ref 204)),(ent P "by_falling_ratio" 471 (.ref 209)),(ent P "taken" 487 (.ref 216)),(ent P "in_order" 494 (.ref 223)),(ent P "_law_cell" 504 (.ref 230)),(ent P "_law_digits" 515 (.ref 237)),(ent P "_law_mixes" 527 (.ref 244)),(ent P "_law_plan" 533 (.ref 249)),(ent P "_law_most" 540 (.ref 256)),(ent P "_law_ends" 546 (.ref 261)),(ent P "_law_ways" 559 (.ref 268)),(ent P "_law_whole" 566 (.ref 275)),(ent P "_law_divisor" 574 (.ref 282)),(ent P "_law_is_frac" 583 (.ref 289)),(ent P "_law_shares" 594 (.ref 296)),(ent P "_law_made" 603 (.ref 303)),(ent P "_law_times" 613 (.ref 310)),(ent P "_law_weight" 622 (.ref 317)),(ent P "_law_heights" 634 (.ref 324)),(ent P "_law_best" 640 (.ref 329)),(ent P "_law_asked" 646 (.ref 334)),(ent P "law" 657 (.ref 341))] 61),#[]⟩) ::
 (nat_lit 23,⟨(.type "dict"),none,(.dict #[(ent P "__module__" 196 (.str "lotdraw.errors" 187)),(ent P "__firstlineno__" 200 (.int 2 199)),(ent P "__static_attributes__" 201 (.ref 22)),(ent P "__weakref__" 203 (.ref 25)),(ent P "__doc__" 204 .none)] 3),#[]⟩) ::
 (nat_lit 24,⟨(.type "type"),none,(.cls ⟨"LotError",[(.type "ValueError")],[(.ref 24),(.type "ValueError"),(.type "Exception"),(.type "BaseException"),(.type "object")],23,"LotError",true,[],[(.ref 37),(.ref 49)],false,none,false⟩),#[(some (.ref 15)),none,(some (.str "LotError" 189)),(some (.str "LotError" 197)),(some (.builtin "ValueError.__new__")),(some (.bool true))]⟩) ::
 (nat_lit 25,⟨(.type "getset_descriptor"),none,(.fields #[(.str "__weakref__" 202),(.ref 24),(.builtin "ExceptionGroup.__weakref__"),.none]),#[]⟩) ::
 (nat_lit 36,⟨(.type "dict"),none,(.dict #[(ent P "__module__" 214 (.str "lotdraw.errors" 187)),(ent P "__firstlineno__" 218 (.int 4 217)),(ent P "__static_attributes__" 219 (.ref 35)),(ent P "__doc__" 220 .none)] 2),#[]⟩) ::
 (nat_lit 37,⟨(.type "type"),none,(.cls ⟨"NoNumber",[(.ref 24)],[(.ref 37),(.ref 24),(.type "ValueError"),(.type "Exception"),(.type "BaseException"),(.type "object")],36,"NoNumber",true,[],[],false,none,false⟩),#[(some (.ref 28)),none,(some (.str "NoNumber" 207)),(some (.str "NoNumber" 215)),(some (.builtin "ValueError.__new__")),(some (.bool true))]⟩) ::
 (nat_lit 48,⟨(.type "dict"),none,(.dict #[(ent P "__module__" 230 (.str "lotdraw.errors" 187)),(ent P "__firstlineno__" 234 (.int 6 233)),(ent P "__static_attributes__" 235 (.ref 47)),(ent P "__doc__" 236 .none)] 2),#[]⟩) ::
 (nat_lit 49,⟨(.type "type"),none,(.cls ⟨"NoShares",[(.ref 24)],[(.ref 49),(.ref 24),(.type "ValueError"),(.type "Exception"),(.type "BaseException"),(.type "object")],48,"NoShares",true,[],[],false,none,false⟩),#[(some (.ref 40)),none,(some (.str "NoShares" 223)),(some (.str "NoShares" 231)),(some (.builtin "ValueError.__new__")),(some (.bool true))]⟩) ::
 (nat_lit 57,k7 P "frac" 247 248 249 12 2 52 53 54 55 56 253 254) ::
 (nat_lit 58,gQ P "frac" 8 "lotdraw.fracs" 239 57) ::
 (nat_lit 64,k7 P "plus" 256 257 258 19 2 59 60 61 62 63 265 266) ::
 (nat_lit 65,gQ P "plus" 9 "lotdraw.fracs" 239 64) ::
 (nat_lit 71,k7 P "minus" 268 269 270 25 2 66 67 68 69 70 273 274) ::
 (nat_lit 72,gQ P "minus" 10 "lotdraw.fracs" 239 71) ::
 (nat_lit 78,k7 P "times" 276 277 278 27 2 73 74 75 76 77 283 284) ::
 (nat_lit 79,gQ P "times" 11 "lotdraw.fracs" 239 78) ::
 (nat_lit 85,k7 P "over" 286 287 288 31 2 80 81 82 83 84 291 292) ::
 (nat_lit 86,gQ P "over" 12 "lotdraw.fracs" 239 85) ::
 (nat_lit 92,k7 P "power" 294 295 296 33 2 87 88 89 90 91 302 303) ::
 (nat_lit 93,gQ P "power" 13 "lotdraw.fracs" 239 92) ::
 (nat_lit 99,k7 P "under" 305 306 307 40 2 94 95 96 97 98 310 311) ::
 (nat_lit 100,gQ P "under" 14 "lotdraw.fracs" 239 99) ::
 (nat_lit 106,k7 P "greatest_divisor" 313 314 315 42 2 101 102 103 104 105 320 321) ::
 (nat_lit 107,gQ P "greatest_divisor" 15 "lotdraw.fracs" 239 106) ::
 (nat_lit 113,k7 P "leap" 323 324 325 54 2 108 109 110 111 112 333 334) ::
 (nat_lit 114,gQ P "leap" 16 "lotdraw.fracs" 239 113) ::
 (nat_lit 120,k7 P "goes_on" 338 339 340 65 2 115 116 117 118 119 344 345) ::
 (nat_lit 121,gQ P "goes_on" 18 "lotdraw.plans" 336 120) ::
 (nat_lit 125,nq P "come_to" 347 348 349 68 1 122 123 124 350 351) ::
 (nat_lit 126,gQ P "come_to" 19 "lotdraw.plans" 336 125) ::
 (nat_lit 130,nq P "ends" 353 354 355 73 1 127 128 129 356 357) ::
 (nat_lit 131,gQ P "ends" 20 "lotdraw.plans" 336 130) ::
 (nat_lit 135,nq P "drawn_on" 359 360 361 75 1 132 133 134 362 363) ::
 (nat_lit 136,gQ P "drawn_on" 21 "lotdraw.plans" 336 135) ::
 (nat_lit 140,nq P "led_to" 365 366 367 80 1 137 138 139 368 369) ::
 (nat_lit 141,gQ P "led_to" 22 "lotdraw.plans" 336 140) ::
 (nat_lit 147,k7 P "after" 371 372 373 82 2 142 143 144 145 146 376 377) ::
 (nat_lit 148,gQ P "after" 23 "lotdraw.plans" 336 147) ::
 (nat_lit 149,⟨(.type "tuple"),none,(.seq #[(.int 0 381),(.int 1 382)] 0),#[]⟩) ::
 (nat_lit 155,k7 P "common_bottom" 384 385 386 88 1 150 151 152 153 154 390 391) ::
 (nat_lit 156,gQ P "common_bottom" 26 "lotdraw.polys" 379 155) ::
 (nat_lit 160,nq P "tops_over" 393 394 395 93 2 157 158 159 396 397) ::
 (nat_lit 161,gQ P "tops_over" 27 "lotdraw.polys" 379 160) ::
 (nat_lit 167,k7 P "ways_from" 401 402 403 96 2 162 163 164 165 166 410 411) ::
 (nat_lit 168,gQ P "ways_from" 29 "lotdraw.ways" 399 167) ::
 (nat_lit 169,⟨(.type "tuple"),none,(.seq #[(.int 1 415),(.int 1 416)] 0),#[]⟩) ::
 (nat_lit 175,k7 P "ratio" 418 419 420 105 3 170 171 172 173 174 424 425) ::
 (nat_lit 176,gQ P "ratio" 32 "lotdraw.rules" 413 175) ::
 (nat_lit 182,k7 P "rule_by_ratio" 427 428 429 108 4 177 178 179 180 181 438 439) ::
 (nat_lit 183,gQ P "rule_by_ratio" 33 "lotdraw.rules" 413 182) ::
 (nat_lit 189,k7 P "check_shares" 441 442 443 117 2 184 185 186 187 188 446 447) ::
 (nat_lit 190,gQ P "check_shares" 34 "lotdraw.rules" 413 189) ::
 (nat_lit 196,k7 P "check_most" 449 450 451 120 1 191 192 193 194 195 453 454) ::
 (nat_lit 197,gQ P "check_most" 35 "lotdraw.rules" 413 196) ::
 (nat_lit 203,k7 P "often" 456 457 458 123 2 198 199 200 201 202 463 464) ::
 (nat_lit 204,gQ P "often" 36 "lotdraw.rules" 413 203) ::
 (nat_lit 208,nq P "by_falling_ratio" 466 467 468 127 1 205 206 207 469 470) ::
 (nat_lit 209,gQ P "by_falling_ratio" 37 "lotdraw.rules" 413 208) ::
 (nat_lit 215,k7 P "taken" 472 473 474 132 2 210 211 212 213 214 485 486) ::
 (nat_lit 216,gQ P "taken" 38 "lotdraw.rules" 413 215) ::
 (nat_lit 222,k7 P "in_order" 488 489 490 144 1 217 218 219 220 221 492 493) ::
 (nat_lit 223,gQ P "in_order" 39 "lotdraw.rules" 413 222) ::
 (nat_lit 229,k7 P "_law_cell" 497 498 499 147 2 224 225 226 227 228 502 503) ::
 (nat_lit 230,gQ P "_law_cell" 41 "law_lotdraw_k48_whole_no_rule_catches_more" 495 229) ::
 (nat_lit 236,k7 P "_law_digits" 505 506 507 151 3 231 232 233 234 235 513 514) ::
 (nat_lit 237,gQ P "_law_digits" 42 "law_lotdraw_k48_whole_no_rule_catches_more" 495 236) ::
 (nat_lit 243,k7 P "_law_mixes" 516 517 518 157 3 238 239 240 241 242 525 526) ::
 (nat_lit 244,gQ P "_law_mixes" 43 "law_lotdraw_k48_whole_no_rule_catches_more" 495 243) ::
 (nat_lit 248,nq P "_law_plan" 528 529 530 163 2 245 246 247 531 532) ::
 (nat_lit 249,gQ P "_law_plan" 44 "law_lotdraw_k48_whole_no_rule_catches_more" 495 248) ::
 (nat_lit 260,nq P "_law_ends" 541 542 543 185 1 257 258 259 544 545) ::
 (nat_lit 261,gQ P "_law_ends" 46 "law_lotdraw_k48_whole_no_rule_catches_more" 495 260) ::
 (nat_lit 267,k7 P "_law_ways" 547 548 549 194 1 262 263 264 265 266 557 558) ::
 (nat_lit 268,gQ P "_law_ways" 47 "law_lotdraw_k48_whole_no_rule_catches_more" 495 267) ::
 (nat_lit 274,k7 P "_law_whole" 560 561 562 202 1 269 270 271 272 273 564 565) ::
 (nat_lit 275,gQ P "_law_whole" 48 "law_lotdraw_k48_whole_no_rule_catches_more" 495 274) ::
 (nat_lit 281,k7 P "_law_divisor" 567 568 569 204 2 276 277 278 279 280 572 573) ::
 (nat_lit 282,gQ P "_law_divisor" 49 "law_lotdraw_k48_whole_no_rule_catches_more" 495 281) ::
 (nat_lit 288,k7 P "_law_is_frac" 575 576 577 208 3 283 284 285 286 287 581 582) ::
 (nat_lit 289,gQ P "_law_is_frac" 50 "law_lotdraw_k48_whole_no_rule_catches_more" 495 288) ::
 (nat_lit 295,k7 P "_law_shares" 584 585 586 214 1 290 291 292 293 294 592 593) ::
 (nat_lit 296,gQ P "_law_shares" 51 "law_lotdraw_k48_whole_no_rule_catches_more" 495 295) ::
 (nat_lit 302,k7 P "_law_made" 595 596 597 223 2 297 298 299 300 301 601 602) ::
 (nat_lit 303,gQ P "_law_made" 52 "law_lotdraw_k48_whole_no_rule_catches_more" 495 302) ::
 (nat_lit 309,k7 P "_law_times" 604 605 606 226 2 304 305 306 307 308 611 612) ::
 (nat_lit 310,gQ P "_law_times" 53 "law_lotdraw_k48_whole_no_rule_catches_more" 495 309) ::
 (nat_lit 316,k7 P "_law_weight" 614 615 616 231 3 311 312 313 314 315 620 621) ::
 (nat_lit 317,gQ P "_law_weight" 54 "law_lotdraw_k48_whole_no_rule_catches_more" 495 316) ::
 (nat_lit 323,k7 P "_law_heights" 623 624 625 233 3 318 319 320 321 322 632 633) ::
 (nat_lit 324,gQ P "_law_heights" 55 "law_lotdraw_k48_whole_no_rule_catches_more" 495 323) ::
 (nat_lit 328,nq P "_law_best" 635 636 637 240 4 325 326 327 638 639) ::
 (nat_lit 329,gQ P "_law_best" 56 "law_lotdraw_k48_whole_no_rule_catches_more" 495 328) ::
 (nat_lit 333,nq P "_law_asked" 641 642 643 248 3 330 331 332 644 645) ::
 (nat_lit 334,gQ P "_law_asked" 57 "law_lotdraw_k48_whole_no_rule_catches_more" 495 333) ::
 (nat_lit 340,k7 P "law" 647 648 649 266 1 335 336 337 338 339 655 656) ::
 (nat_lit 341,gQ P "law" 58 "law_lotdraw_k48_whole_no_rule_catches_more" 495 340) ::
 []
def LY:List Addr:=[2,3,23,24,25,36,37,48,49,57,58,64,65,71,72,78,79,85,86,92,93,99,100,106,107,113,114,120,121,125,126,130,131,135,136,140,141,147,148,149,155,156,160,161,167,168,169,175,176,182,183,189,190,196,197,203,204,208,209,215,216,222,223,229,230,236,237,243,244,248,249,260,261,267,268,274,275,281,282,288,289,295,296,302,303,309,310,316,317,323,324,328,329,333,334,340,341]
def LZ:List Addr:=[218,206]
set_option maxHeartbeats 0
theorem BS (P:Params):LY=(LX P).map (·.1):=by kernel_rfl
theorem Fb (w:World) (os:OsState):(Hd.xp treeTable PySem.Challenge.pw_lotdraw_k48_whole_no_rule_catches_more w 11 (some (.ref 6)) 4264 (Hd.uR w os) (topStub PySem.Challenge.pw_lotdraw_k48_whole_no_rule_catches_more)).map (fun s=>((staticsOk (importedModules PySem.Challenge.pw_lotdraw_k48_whole_no_rule_catches_more.main.body) (boot_heap w.params) s.abs.heap && namesBound PySem.Challenge.pw_lotdraw_k48_whole_no_rule_catches_more s.abs.heap && gensDone s.abs && laidKept (boot_heap w.params) s.abs.heap),(LY.map s.abs.heap.get?,LZ.map s.abs.heap.get?)))=some (true,((LX w.params).map fun p=>some p.2,LZ.map fun _=>some (tabObj #[]))):=by kernel_rfl
abbrev Ww:Shared->Bool:=fun s=>xlAt uS [] s && recOk (RowW.records (OpenRow.toRowW (OpenLaw.row PySem.Challenge.rw_lotdraw_k48_whole_no_rule_catches_more))) s
theorem Fc (w:World) (os:OsState):(Hd.xp treeTable PySem.Challenge.pw_lotdraw_k48_whole_no_rule_catches_more w 11 (some (.ref 6)) 4264 (Hd.uR w os) (topStub PySem.Challenge.pw_lotdraw_k48_whole_no_rule_catches_more)).map (fun s=>openSeen uS [] (importedModules PySem.Challenge.pw_lotdraw_k48_whole_no_rule_catches_more.main.body) Ww true s.abs)=some (openGood uS []):=by kernel_rfl
end aF
set_option maxHeartbeats 4000000
namespace L2
open PySem PySem.Spec PyProof.Rows
abbrev Key:=Sum Int Str
def rL:Key->Value->Bool
 | .inl k,v=>Value.isInt k v
 | .inr x,v=>Value.isStrOf x v
def OW (w:World):Key->Int
 | .inl k=>hashInt k
 | .inr x=>hashStr w x
theorem cL:∀ {k:Key} {v:Value},rL k v=true->(∃ i t,k=Sum.inl i /\ v=Value.int i t) \/ (∃ x t,k=Sum.inr x /\ v=Value.str x t)
 | .inl i,v,h=>by
   obtain ⟨t,e⟩:=Value.isInt_shape (k:=i) (v:=v) h
   exact .inl ⟨i,t,rfl,e⟩
 | .inr x,v,h=>by
   obtain ⟨t,e⟩:=Value.isStrOf_shape (x:=x) (v:=v) h
   exact .inr ⟨x,t,rfl,e⟩
theorem Ay (i:Int) (t:Tok):rL (.inl i) (.int i t)=true:=by simp [rL,Value.isInt]
theorem Az (x:Str) (t:Tok):rL (.inr x) (.str x t)=true:=by simp [rL,Value.isStrOf]
theorem IH (a b:Int):decide ((Sum.inl a:Key)=Sum.inl b)=(a == b):=by
 by_cases e:a=b
 ·subst e; simp
 ·have h:¬ (Sum.inl a:Key)=Sum.inl b:=fun q=>e (Sum.inl.inj q)
  rw [decide_eq_false h]
  exact (beq_eq_false_iff_ne.mpr e).symm
theorem II (a b:Str):decide ((Sum.inr a:Key)=Sum.inr b)=decide (a=b):=by
 by_cases e:a=b
 ·subst e; simp
 ·have h:¬ (Sum.inr a:Key)=Sum.inr b:=fun q=>e (Sum.inr.inj q)
  rw [decide_eq_false h,decide_eq_false e]
theorem IJ (a:Int) (b:Str):decide ((Sum.inl a:Key)=Sum.inr b)=false:=decide_eq_false (fun q=>nomatch q)
theorem IK (a:Str) (b:Int):decide ((Sum.inr a:Key)=Sum.inl b)=false:=decide_eq_false (fun q=>nomatch q)
def cY (prog:Program) (w:World):PySem.KeyKind prog w Key where
 is:=rL
 hash:=OW w
 inj:=fun v a b ha hb=>by
  rcases cL ha with ⟨i,t,rfl,rfl⟩ | ⟨x,t,rfl,rfl⟩
  ·rcases cL hb with ⟨j,u,rfl,e⟩ | ⟨y,u,rfl,e⟩
   ·injection e with e1 _; rw [e1]
   ·exact nomatch e
  ·rcases cL hb with ⟨j,u,rfl,e⟩ | ⟨y,u,rfl,e⟩
   ·exact nomatch e
   ·injection e with e1 _; rw [e1]
 byValue:=fun k v h=>by
  rcases cL h with ⟨i,t,rfl,rfl⟩ | ⟨x,t,rfl,rfl⟩ <;> rfl
 pyHash:=fun hv h=>by
  rcases cL hv with ⟨i,t,rfl,rfl⟩ | ⟨x,t,rfl,rfl⟩
  ·exact wpAny_pyHash_int h
  ·exact wpAny_pyHash_str h
 eqBool:=fun hu hv h=>by
  rcases cL hu with ⟨i,t,rfl,rfl⟩ | ⟨x,t,rfl,rfl⟩
  ·rcases cL hv with ⟨j,u,rfl,rfl⟩ | ⟨y,u,rfl,rfl⟩
   ·rw [IH] at h; exact wpAny_eqBool_int h
   ·rw [IJ] at h; exact SeqAt.EqAt.int_str i t y u _ _ _ _ h
  ·rcases cL hv with ⟨j,u,rfl,rfl⟩ | ⟨y,u,rfl,rfl⟩
   ·rw [IK] at h; exact SeqAt.EqAt.str_int x t j u _ _ _ _ h
   ·rw [II] at h; exact wpAny_eqBool_str h
 «strs»:=fun k x t v h=>by
  rcases cL h with ⟨i,u,rfl,e⟩ | ⟨y,u,rfl,e⟩
  ·exact nomatch e
  ·injection e with e1 _
   subst e1
   cases v <;> rfl
theorem uT (prog:Program) (w:World) (i:Int) (t:Tok):(cY prog w).is (.inl i) (.int i t)=true:=Ay i t
theorem uU (prog:Program) (w:World) (x:Str) (t:Tok):(cY prog w).is (.inr x) (.str x t)=true:=Az x t
inductive V where
 | h8 | bl (b:Bool) | int (i:Int) | str (x:Str) | L3 (b:Array UInt8) | LB (b:UInt64) | ref (a:Addr) | ty (n:String)
 deriving DecidableEq
def RelV:V->Value->Prop
 | .h8,u=>u=Value.none
 | .bl b,u=>u=Value.bool b
 | .int i,u=>∃ t,u=Value.int i t
 | .str x,u=>∃ t,u=Value.str x t
 | .L3 b,u=>∃ t,u=Value.bytes b t
 | .LB b,u=>∃ t,u=Value.float b t
 | .ref a,u=>u=Value.ref a
 | .ty n,u=>u=Value.type n
abbrev bw:List V->List Value->Prop:=Paired RelV
theorem bw.length {xs:List V} {us:List Value} (r:bw xs us):xs.length=us.length:=Paired.length r
theorem bw.get:∀ {xs:List V} {us:List Value} {i:Nat} {x:V},bw xs us->xs[i]?=some x->∃ u,us[i]?=some u /\ RelV x u
 | _,_,_,_,.nil,e=>by simp at e
 | _,_,0,_,.cons r _,e=>by simp at e; subst e; exact ⟨_,rfl,r⟩
 | _,_,i + 1,x,.cons _ t,e=>by
   obtain ⟨u,h1,h2⟩:=bw.get (i:=i) (x:=x) t (by simpa using e)
   exact ⟨u,by simpa using h1,h2⟩
theorem bw.append:∀ {xs ys:List V} {us ws:List Value},bw xs us->bw ys ws->bw (xs ++ ys) (us ++ ws)
 | _,_,_,_,.nil,s=>s
 | _,_,_,_,.cons r t,s=>.cons r (bw.append t s)
theorem bw.take:∀ {xs:List V} {us:List Value} (n:Nat),bw xs us->bw (xs.take n) (us.take n)
 | _,_,0,_=>.nil
 | _,_,_ + 1,.nil=>.nil
 | _,_,n + 1,.cons r t=>.cons r (bw.take n t)
theorem bw.drop:∀ {xs:List V} {us:List Value} (n:Nat),bw xs us->bw (xs.drop n) (us.drop n)
 | _,_,0,r=>r
 | _,_,_ + 1,.nil=>.nil
 | _,_,n + 1,.cons _ t=>bw.drop n t
def nr:Option V->Option Value->Prop
 | some v,some u=>RelV v u
 | none,none=>True
 | _,_=>False
def KV {κ:Type}:List (κ×V)->List (κ×Value)->Prop:=Paired fun (p:κ×V) (q:κ×Value)=>p.1=q.1 /\ RelV p.2 q.2
def kV:Key->V
 | .inl i=>.int i
 | .inr x=>.str x
inductive HO where
  | lst (xs:List V)
  | tup (xs:List V)
  | dK (aQ:List (Key×V)) | dT (aQ:List (List Key×V))
  | set (S:Int->Bool) (n:Nat)
  | ins (C dx:Addr) (fs:List (Str×V))
  | own (x:Addr)
  | xd (fs:List (Str×V))
  | met (f x:Addr)
  | OX (lo hi:Int)
  | qP (o:Obj) (u:HO)
  | IL (ps:Array Value)
 | lam (p:Pos) (q:Str) | code (q:Str)
   | ext (φ:Heap->Prop)
abbrev Hp:=Addr->Option HO
def upd (H:Hp) (a:Addr) (o:HO):Hp:=fun b=>if b=a then some o else H b
theorem bR {H:Hp} {a:Addr} {o:HO}:upd H a o a=some o:=by unfold upd; rw [if_pos rfl]
theorem aR {H:Hp} {a b:Addr} {o:HO} (h:b≠a):upd H a o b=H b:=by unfold upd; rw [if_neg h]
theorem aV {H:Hp} {a b:Addr} {o:HO} (h:H a=some o) (h':H b=none):a≠b:=by
 intro e; subst e; rw [h] at h'; cases h'
def dw (H:Hp) (b:Addr) (xs:List V):Prop:=H b=some (.tup xs) \/ ∃ ob,H b=some (.qP ob (.tup xs))
theorem dw.ne {H:Hp} {a b:Addr} {o:HO} {xs:List V} (t:dw H b xs) (n:b≠a):dw (upd H a o) b xs:=by
 rcases t with t | ⟨ob,t⟩
 ·exact .inl (by rw [aR n]; exact t)
 ·exact .inr ⟨ob,by rw [aR n]; exact t⟩
theorem dw.new {H:Hp} {a b:Addr} {o:HO} {xs:List V} (t:dw H b xs) (n:H a=none):dw (upd H a o) b xs:=t.ne fun z=>by
 subst z
 rcases t with t | ⟨ob,t⟩ <;> rw [n] at t <;> cases t
theorem dw.dT {H:Hp} {a b:Addr} {o:HO} {xs:List V} {aQ:List (List Key×V)} (t:dw H b xs) (e:H a=some (.dT aQ)):dw (upd H a o) b xs:=t.ne fun z=>by
 subst z
 rcases t with t | ⟨ob,t⟩ <;> rw [e] at t <;> cases t
section
variable (P:Program) (w:World)
def cy (H:Hp) (h:Heap) (a:Addr):HO->Prop
 | .lst xs=>xs.length<=sizeLine /\ ∃ (its:List Value) (n:Nat),bw xs its /\ h.get? a=some { cls:=.type "list",data:=.seq its.toArray n }
 | .tup xs=>xs.length<=sizeLine /\ ∃ its:List Value,bw xs its /\ IsTup h a its.toArray
 | .dK aQ=>aQ.length<=sizeLine /\ (a == sysModules)=false /\ ∃ vs,KV aQ vs /\ h.DictOf (cY P w) a vs
 | .dT aQ=>aQ.length<=sizeLine /\ (a == sysModules)=false /\ ∃ xs:List (List Key×Addr×Value),
   Paired (fun (p:List Key×V) (q:List Key×Addr×Value)=>p.1=q.1 /\ dw H q.2.1 (p.1.map kV) /\ RelV p.2 q.2.2) aQ xs /\
   ∃ o es ep,h.get? a=some o /\ o.ExactDict /\ o.data=.dict es ep /\ es.toList=xs.map (entryOfKey (tupleKind (cY P w))) /\ (xs.map (·.1)).Nodup
 | .set S n=>h.SetOf (intKind P w) a S n
 | .ins C dx fs=>H dx=some (.own a) /\ fs.length<=1000 /\ dx≠a /\ h.get? a=some (PySem.W.instObj C dx) /\
   ∃ mA,h.Ns1 dx mA /\ (∀ f,nr (fs.lookup f) (mA f)) /\ PySem.Within mA (fs.map (·.1))
 | .own _=>∃ o,h.get? a=some o
 | .xd fs=>∃ mA,h.Ns1 a mA /\ ∀ f,nr (fs.lookup f) (mA f)
 | .OX lo hi=>∃ t u v,h.get? a=some { cls:=.type "range",data:=.fields #[.int lo t,.int hi u,.int 1 v] }
 | .qP o u=>h.get? a=some o /\ cy H h a u
 | .IL ps=>h.get? a=some { cls:=.none,data:=.fields ps }
 | .lam p q=>∃ ps:Array Value,h.get? a=some (PySem.W.tabObj ps) /\ TriplesOk ps.toList /\ (codeAmong p ps.toList=none \/ ∃ c,codeAmong p ps.toList=some (.ref c) /\ H c=some (.code q))
 | .code q=>h.CodeRec (.ref a) q
 | .met f x=>h.get? a=some (PySem.W.methodObj (.ref f) (.ref x))
 | .ext φ=>φ h /\ (∃ o,h.get? a=some o) /\ ∀ h1 h2:Heap,φ h1->(∀ o,h1.get? a=some o->h2.get? a=some o)->φ h2
def lh (H:Hp) (h:Heap):Prop:=∀ a o,H a=some o->cy P w H h a o
end
section
variable {P:Program} {w:World} {H H':Hp} {h h':Heap} {a:Addr} {o:HO}
theorem cy.lt (x:cy P w H h a o):a < h.objs.size:=by
 cases o with
 | lst xs=>obtain ⟨_,_,_,_,e⟩:=x; exact Heap.lt_size e
 | tup xs=>obtain ⟨_,_,_,p⟩:=x; exact p.lt
 | dK aQ=>obtain ⟨_,_,_,_,o,_,_,e,_⟩:=x; exact Heap.lt_size e
 | dT aQ=>obtain ⟨_,_,_,_,o,_,_,e,_⟩:=x; exact Heap.lt_size e
 | set S n=>obtain ⟨o,_,_,_,e,_⟩:=x; exact Heap.lt_size e
 | ins C dx fs=>obtain ⟨_,_,_,e,_⟩:=x; exact Heap.lt_size e
 | own y=>obtain ⟨_,e⟩:=x; exact Heap.lt_size e
 | xd fs=>obtain ⟨_,⟨_,_,_,e,_⟩,_⟩:=x; exact Heap.lt_size e
 | OX lo hi=>obtain ⟨_,_,_,e⟩:=x; exact Heap.lt_size e
 | qP ob u=>obtain ⟨e,_⟩:=x; exact Heap.lt_size e
 | IL ps=>exact Heap.lt_size (show h.get? a=some _ from x)
 | lam p q=>obtain ⟨_,e,_⟩:=x; exact Heap.lt_size e
 | code q=>obtain ⟨_,_,_,_,z,e,_⟩:=x; cases z; exact Heap.lt_size e
 | met f y=>exact Heap.lt_size (show h.get? a=some _ from x)
 | ext φ=>obtain ⟨_,⟨_,e⟩,_⟩:=x; exact Heap.lt_size e
theorem Paired.IM {α β:Type} {F G:α->β->Prop}:∀ {L4:List α} {L5:List β},Paired F L4 L5->(∀ a b,F a b->G a b)->Paired G L4 L5
 | _,_,.nil,_=>.nil
 | _,_,.cons r t,f=>.cons (f _ _ r) (Paired.IM t f)
theorem cy.qQ (x:cy P w H h a o) (k:∀ b u,(b=a \/ H b=some (.own a))->h.get? b=some u->h'.get? b=some u)
  (ho:∀ b,H b=some (.own a)->H' b=some (.own a)) (ht:∀ b xs,dw H b xs->dw H' b xs) (hc:∀ b q,H b=some (.code q)->H' b=some (.code q):=by first | exact fun _ _ z=>z | (intro c y z; rw [aR (aV z (by assumption))]; exact z)):cy P w H' h' a o:=by
 induction o with
 | lst xs=>obtain ⟨z,its,n,r,e⟩:=x; exact ⟨z,its,n,r,k _ _ (.inl rfl) e⟩
 | tup xs=>obtain ⟨z,its,r,ob,e,c⟩:=x; exact ⟨z,its,r,ob,k _ _ (.inl rfl) e,c⟩
 | dK aQ=>obtain ⟨z,y,vs,r,ob,es,ep,e,c⟩:=x; exact ⟨z,y,vs,r,ob,es,ep,k _ _ (.inl rfl) e,c⟩
 | dT aQ=>
   obtain ⟨z,y,xs,r,ob,es,ep,e,c⟩:=x
   exact ⟨z,y,xs,Paired.IM r fun p q z=>⟨z.1,ht _ _ z.2.1,z.2.2⟩,ob,es,ep,k _ _ (.inl rfl) e,c⟩
 | set S n=>obtain ⟨ob,es,ep,t,e,c⟩:=x; exact ⟨ob,es,ep,t,k _ _ (.inl rfl) e,c⟩
 | ins C dx fs=>
   obtain ⟨d,z,ne,e,mA,⟨od,es,ep,e2,c⟩,r⟩:=x
   exact ⟨ho _ d,z,ne,k _ _ (.inl rfl) e,mA,⟨od,es,ep,k _ _ (.inr d) e2,c⟩,r⟩
 | own y=>obtain ⟨ob,e⟩:=x; exact ⟨ob,k _ _ (.inl rfl) e⟩
 | xd fs=>obtain ⟨mA,⟨od,es,ep,e,c⟩,r⟩:=x; exact ⟨mA,⟨od,es,ep,k _ _ (.inl rfl) e,c⟩,r⟩
 | OX lo hi=>obtain ⟨t,u,v,e⟩:=x; exact ⟨t,u,v,k _ _ (.inl rfl) e⟩
 | qP ob u ih=>obtain ⟨e,q⟩:=x; exact ⟨k _ _ (.inl rfl) e,ih q⟩
 | lam p q=>obtain ⟨ps,e,t,r⟩:=x; exact ⟨ps,k _ _ (.inl rfl) e,t,r.imp id fun ⟨c,e1,e2⟩=>⟨c,e1,hc c q e2⟩⟩
 | code q=>obtain ⟨c,o,vs,t,z,e,r⟩:=x; cases z; exact ⟨_,o,vs,t,rfl,k _ _ (.inl rfl) e,r⟩
 | IL ps=>
   have e:h.get? a=some { cls:=.none,data:=.fields ps }:=x
   show h'.get? a=some { cls:=.none,data:=.fields ps }
   exact k a _ (.inl rfl) e
 | met f y=>
   have e:h.get? a=some (PySem.W.methodObj (.ref f) (.ref y)):=x
   show h'.get? a=some (PySem.W.methodObj (.ref f) (.ref y))
   exact k a _ (.inl rfl) e
 | ext φ=>obtain ⟨p,⟨o,e⟩,st⟩:=x; exact ⟨st _ _ p fun o q=>k _ _ (.inl rfl) q,⟨o,k _ _ (.inl rfl) e⟩,st⟩
theorem lh.lt (x:lh P w H h) (e:H a=some o):a < h.objs.size:=(x a o e).lt
theorem lh.fresh (x:lh P w H h) (e:h.objs.size<=a):H a=none:=by
 cases q:H a with
 | none=>rfl
 | some u=>exact absurd (Nat.lt_of_lt_of_le (x.lt q) e) (Nat.lt_irrefl _)
theorem lh.kept (x:lh P w H h) (k:∀ b u,h.get? b=some u->h'.get? b=some u):lh P w H h':=fun a o e=>
 (x a o e).qQ (fun b u _ q=>k b u q) (fun _ q=>q) (fun _ _ q=>q) fun _ _ q=>q
theorem lh.laid (x:lh P w H h) (k:∀ b u,h.get? b=some u->h'.get? b=some u) (hp:h.objs.size<=a) (new:cy P w (upd H a o) h' a o):lh P w (upd H a o) h':=fun b u e=>by
 have hn:=x.fresh hp
 by_cases hb:b=a
 ·subst hb; rw [bR] at e; cases e; exact new
 ·rw [aR hb] at e
  exact (x b u e).qQ (fun c v _ q=>k c v q) (fun c q=>by rw [aR (aV q hn)]; exact q) (fun c xs q=>q.new hn) fun c _ q=>by rw [aR (aV q hn)]; exact q
end
def Rd (H:Hp) (a:Addr) (u:HO):Prop:=H a=some u \/ ∃ o,H a=some (.qP o u)
theorem Rd.ok {P:Program} {w:World} {H:Hp} {h:Heap} {a:Addr} {u:HO} (r:Rd H a u) (x:lh P w H h):cy P w H h a u:=by
 rcases r with r | ⟨o,r⟩
 ·exact x a u r
 ·obtain ⟨_,q⟩:=x a _ r
  exact q
def L6:Option HO->Prop
 | some (.lst _)=>True
 | some (.dK _)=>True
 | some (.dT _)=>True
 | some (.set _ _)=>True
 | some (.ins _ _ _)=>True
 | some (.ext _)=>True
 | _=>False
section
variable {P:Program} {w:World} {H:Hp} {h h':Heap} {x e:Addr} {o':HO}
theorem lh.write (ok:lh P w H h) (mu:L6 (H x)) (he:e=x \/ H e=some (.own x)) (k:∀ b u,b≠e->h.get? b=some u->h'.get? b=some u) (AA:∃ u,h'.get? e=some u)
  (new:cy P w (upd H x o') h' x o'):lh P w (upd H x o') h':=fun b u q=>by
 have L7:∀ c y,H c=some (.own y)->c≠x:=fun c y r z=>by subst z; rw [r] at mu; exact mu
 have XW:∀ c xs,H c=some (.tup xs)->c≠x:=fun c xs r z=>by subst z; rw [r] at mu; exact mu
 by_cases hb:b=x
 ·subst hb; rw [bR] at q; cases q; exact new
 ·rw [aR hb] at q
  by_cases IP:b=e
  ·have q':H b=some (.own x):=by
    rcases he with z | z
    ·exact absurd (IP.trans z) hb
    ·rw [IP]; exact z
   rw [q] at q'; cases q'
   obtain ⟨v,hv⟩:=AA
   exact ⟨v,by rw [IP]; exact hv⟩
  ·refine (ok b u q).qQ (fun c v hc r=>k c v ?_ r) (fun c r=>by rw [aR (L7 c b r)]; exact r) (fun c xs r=>r.ne fun z=>by
    subst z
    rcases r with r | ⟨ob,r⟩ <;> rw [r] at mu <;> exact mu) fun c y r=>by rw [aR fun z=>by subst z; rw [r] at mu; exact mu]; exact r
   rcases hc with rfl | hc
   ·exact IP
   ·rintro rfl
    rcases he with z | z
    ·exact L7 c b hc z
    ·rw [hc] at z; cases z; exact hb rfl
end
structure Un (fs ex:List Addr) (H H':Hp) (h h':Heap):Prop where
 keep:∀ b o,h.get? b=some o->H b=none->b∉fs->b∉ex->h'.get? b=some o
 slot:∀ b o,h.get? b=some o->H b=none->b∈fs->b∉ex->∃ sl,h'.get? b=some { o with slots:=sl }
 free:∀ b o,h.get? b=some o->H b=none->b∉ex->H' b=none
 there:∀ b o,h.get? b=some o->b∉ex->∃ o',h'.get? b=some o'
 pz:∀ b xs,H b=some (.tup xs)->H' b=some (.tup xs)
 qR:∀ b o u,H b=some (.qP o u)->H' b=some (.qP o u)
 sI:∀ b ps,H b=some (.IL ps)->∃ more,H' b=some (.IL (ps ++ more))
section
variable {fs XX ex ex':List Addr} {H H1 H2:Hp} {h h1 h2 h':Heap} {a x e:Addr} {o:HO}
theorem Un.any (u:Un fs ex H H1 h h1) {b:Addr} {ob:Obj} (q:h.get? b=some ob) (n:H b=none) (hx:b∉ex):∃ sl,h1.get? b=some { ob with slots:=sl }:=by
 by_cases hb:b∈fs
 ·exact u.slot b ob q n hb hx
 ·exact ⟨ob.slots,u.keep b ob q n hb hx⟩
theorem Un.kept (k:∀ b u,h.get? b=some u->h'.get? b=some u):Un fs ex H H h h':=
 ⟨fun b ob q _ _ _=>k b ob q,fun b ob q _ _ _=>⟨ob.slots,k b ob q⟩,fun _ _ _ n _=>n,fun b ob q _=>⟨ob,k b ob q⟩,fun _ _ q=>q,fun _ _ _ q=>q,fun _ ps q=>⟨#[],by rw [q]; simp⟩⟩
theorem Un.refl:Un fs ex H H h h:=Un.kept fun _ _ q=>q
theorem Un.laid (k:∀ b u,h.get? b=some u->h'.get? b=some u) (hp:h.objs.size<=a) (hn:H a=none):Un fs ex H (upd H a o) h h' where
 keep:=fun b u q _ _ _=>k b u q
 slot:=fun b u q _ _ _=>⟨u.slots,k b u q⟩
 free:=fun b u q n _=>by rw [aR (Nat.ne_of_lt (Nat.lt_of_lt_of_le (Heap.lt_size q) hp))]; exact n
 there:=fun b u q _=>⟨u,k b u q⟩
 pz:=fun b xs q=>by rw [aR (aV q hn)]; exact q
 qR:=fun b u xs q=>by rw [aR (aV q hn)]; exact q
 sI:=fun b ps q=>⟨#[],by rw [aR (aV q hn),q]; simp⟩
theorem Un.write (mu:L6 (H x)) (he:e=x \/ H e=some (.own x)) (k:∀ b u,b≠e->h.get? b=some u->h'.get? b=some u) (AA:∃ u,h'.get? e=some u):Un fs ex H (upd H x o) h h':=by
 have hx:∀ b,H b=none->b≠x:=fun b n z=>by subst z; rw [n] at mu; exact mu
 have hb:∀ b,H b=none->b≠e:=fun b n z=>by
  subst z
  rcases he with r | r
  ·exact hx b n r
  ·rw [n] at r; cases r
 have hm:∀ b u,H b=some u->¬ L6 (some u)->b≠x:=fun b u q nm z=>by subst z; rw [q] at mu; exact nm mu
 refine ⟨fun b u q n _ _=>k b u (hb b n) q,fun b u q n _ _=>⟨u.slots,k b u (hb b n) q⟩,fun b u q n _=>by rw [aR (hx b n)]; exact n,fun b u q _=>?_,
  fun b xs q=>by rw [aR (hm b _ q fun z=>z)]; exact q,fun b u xs q=>by rw [aR (hm b _ q fun z=>z)]; exact q,fun b ps q=>⟨#[],by rw [aR (hm b _ q fun z=>z),q]; simp⟩⟩
 by_cases IP:b=e
 ·subst IP; exact AA
 ·exact ⟨u,k b u IP q⟩
end
def Ol (h:Heap) (H:Hp):List Addr:=(List.range h.objs.size).filter fun a=>(H a).isSome
def qS (h:Heap) (H:Hp):Heap:=PySem.W.hideAll h (Ol h H)
theorem rM (h:Heap) (H:Hp):(qS h H).objs.size=h.objs.size:=PySem.W.hideAll_size _ _
theorem mB {h:Heap} {H:Hp} {b:Addr} {o:Obj} (e:h.get? b=some o) (n:H b=none):(qS h H).get? b=some o:=
 PySem.W.hideAll_get _ e fun hm=>by
  have q:(H b).isSome=true:=(List.mem_filter.mp hm).2
  rw [n] at q; simp at q
theorem zk {h:Heap} {H:Hp} {b:Addr} {o:Obj} (e:(qS h H).get? b=some o):h.get? b=some o /\ H b=none:=by
 have e':h.get? b=some o:=PySem.W.of_hideAll (Ol h H) e
 refine ⟨e',?_⟩
 cases q:H b with
 | none=>rfl
 | some x=>
   have hm:b∈Ol h H:=List.mem_filter.mpr ⟨List.mem_range.mpr (Heap.lt_size e'),by simp [q]⟩
   have z:(qS h H).get? b=none:=PySem.W.hideAll_none (Ol h H) hm
   rw [z] at e; cases e
def Fd (g h:Heap) (L:Addr):List (Addr×Obj):=(List.range h.objs.size).filterMap fun a=>if a=L \/ (g.get? a).isSome=true then none else (h.get? a).map fun o=>(a,o)
def rest (g h:Heap) (L d:Addr):List (Addr×Obj):=(Fd g h L).filter fun p=>decide (p.1≠d)
structure Mod (K:PySem.W.Frag) (mg:Str->Option Value) (base:Heap):Prop where
 Om:K.In base
 glob:base.Ns mainGlobals mg
 blt:∃ mb,base.Ns builtinsNs mb /\ ∀ x:Str,x≠"__name__"->mb x=bootBuiltins x
 nolimit:base.NoLimit
structure Cx where
 prog:Program
 w:World
 K:PySem.W.Frag
 mg:Str->Option Value
 base:Heap
 A:Around
 N:List Str
 fS:Shared
 AB:Hp
 env:Env
 outer:List Env
 stack:List Env
 ex:List Addr
 fn:Str->Bool
 calm:Bool
 pn:List (Addr×Obj)
 xe:Value->Shared->Prop
def lj (l:List Env):List Addr:=l.filterMap (·.frame)
abbrev Cx.fs (X:Cx):List Addr:=lj X.outer
def L8 (sc:Scope) (x:Str):Prop:=sc.names.lookup x=some .local \/ sc.names.lookup x=some .cell \/ sc.names.lookup x=some .free
def Loc (sc:Scope) (x:Str):Prop:=sc.names.lookup x=some .local \/ sc.names.lookup x=some .cell
def Look (env:Env) (h:Heap) (m:Str->Option Value) (x:Str) (u:Value):Prop:=
 (env.kindOf x=some .local /\ m x=some u) \/ ((env.kindOf x=some .cell \/ env.kindOf x=some .free) /\ ∃ c,env.cells.lookup x=some c /\ h.IsCell c (some u))
structure Cx.Ok (X:Cx):Prop where
 mod:Mod X.K X.mg X.base
 kind:X.env.scope.kind=.function
 glob:X.env.globals=mainGlobals
 blt:X.env.builtins=builtinsNs
 above:X.fS.heap.objs.size<=X.env.locals
 inj:∀ x y c,X.env.cells.lookup x=some c->X.env.cells.lookup y=some c->x=y
 has:∀ x,(X.env.kindOf x=some .cell \/ X.env.kindOf x=some .free)->∃ c,X.env.cells.lookup x=some c
 IQ:∀ x c,X.fn x=true->X.env.cells.lookup x=some c->X.fS.heap.objs.size<=c
 hd:X.calm=true->X.A.handled=none
 frames:X.A.frames=some X.stack
 L9:X.stack=X.outer \/ (X.stack=X.env :: X.outer /\ X.env.frame=some X.env.locals)
 OY:∀ b∈X.ex,b≠X.env.locals /\ ∀ x c,X.env.cells.lookup x=some c->c≠b
 bs:∀ b o,X.base.get? b=some o->X.fS.heap.get? b=some o /\ X.AB b=none
 zl:X.base.objs.size<=X.fS.heap.objs.size
 AD:∀ b o,X.base.get? b=some o->b∉X.ex
 BU:∀ b∈X.ex,b∉X.fs
 mC:X.fS.heap.FunFrames X.base X.outer
 HI:∀ b∈X.fs,X.AB b=none
structure Inv (X:Cx) (pins:List (Addr×Obj)) (σ:List (Option V)) (H:Hp) (s:Shared):Prop where
 ok:X.Ok
 os:s.os=X.fS.os
 bare:AllBare s.gens
 base:Un X.fs X.ex X.AB H X.fS.heap s.heap
 loc:∃ m,s.heap.Ns X.env.locals m /\ ∀ (i:Nat) (x:Str) (v:V),X.N[i]?=some x->σ[i]?=some (some v)->L8 X.env.scope x->∃ u,RelV v u /\ Look X.env s.heap m x u
 cell:∀ x c,X.env.cells.lookup x=some c->∃ v,s.heap.IsCell c v
 free:H X.env.locals=none
 jM:∀ x c,X.env.cells.lookup x=some c->H c=none
 pin:∀ p∈X.pn ++ pins,s.heap.get? p.1=some p.2 /\ H p.1=none /\ p.1≠X.env.locals /\ p.1∉X.fs /\ ∀ v,p.2.data≠.cell v
 cg:lh X.prog X.w H s.heap
 len:σ.length=X.N.length
section
variable {X:Cx} {pins:List (Addr×Obj)} {σ:List (Option V)} {H H':Hp} {s:Shared} {h':Heap}
theorem Cx.Ok.IS (ok:X.Ok) {b:Addr} {o:Obj} (e:X.base.get? b=some o):b∉X.fs:=fun hb=>by
 have:=(ok.mC.mem hb).1
 rw [e] at this; cases this
theorem Inv.bs (I:Inv X pins σ H s):∀ b o,X.base.get? b=some o->s.heap.get? b=some o /\ H b=none:=fun b o e=>
 ⟨I.base.keep b o (I.ok.bs b o e).1 (I.ok.bs b o e).2 (I.ok.IS e) (I.ok.AD b o e),I.base.free b o (I.ok.bs b o e).1 (I.ok.bs b o e).2 (I.ok.AD b o e)⟩
theorem Inv.bk (I:Inv X pins σ H s):∀ b o,X.base.get? b=some o->s.heap.get? b=some o:=fun b o e=>(I.bs b o e).1
theorem Inv.mod (I:Inv X pins σ H s):Mod X.K X.mg X.base:=I.ok.mod
theorem Inv.qM (I:Inv X pins σ H s):X.K.In s.heap:=I.ok.mod.Om.keeps I.bk
theorem Inv.lt (I:Inv X pins σ H s):X.env.locals < s.heap.objs.size:=let ⟨_,hn,_⟩:=I.loc; hn.lt
theorem Inv.sz (I:Inv X pins σ H s):X.fS.heap.objs.size<=s.heap.objs.size:=Nat.le_trans I.ok.above (Nat.le_of_lt I.lt)
theorem Inv.Ma (I:Inv X pins σ H s) {a:Addr} (h:s.heap.objs.size<=a):a∉X.fs:=fun hb=>by
 obtain ⟨_,o,ho,_⟩:=I.ok.mC.mem hb
 exact absurd (Nat.lt_of_lt_of_le (Heap.lt_size ho) (Nat.le_trans I.sz h)) (Nat.lt_irrefl _)
theorem Inv.HJ (I:Inv X pins σ H s):∀ x c,X.env.cells.lookup x=some c->c≠X.env.locals:=fun x c e z=>by
 obtain ⟨v,o,ho,hd⟩:=I.cell x c e
 obtain ⟨m,⟨o',es,ep,BV,Fe,_⟩,_⟩:=I.loc
 rw [z,BV] at ho; cases ho; rw [Fe] at hd; cases hd
theorem Inv.mC (I:Inv X pins σ H s):s.heap.FunFrames X.base X.outer:=by
 have all:∀ (l:List Env),(∀ b∈lj l,b∈X.fs)->X.fS.heap.FunFrames X.base l->s.heap.FunFrames X.base l:=by
  intro l
  induction l with
  | nil=>intro _ _; trivial
  | cons env r ih=>
    intro hs hl
    obtain ⟨hk,⟨L,o,hf,hn,ho,hd⟩,hr⟩:=hl
    have hL:L∈X.fs:=hs L (by unfold lj; rw [List.filterMap_cons,hf]; exact List.mem_cons_self)
    obtain ⟨sl,e⟩:=I.base.slot L o ho (I.ok.HI L hL) hL fun z=>I.ok.BU L z hL
    exact ⟨hk,⟨L,_,hf,hn,e,hd⟩,ih (fun b hb=>hs b (by unfold lj; rw [List.filterMap_cons,hf]; exact List.mem_cons_of_mem _ hb)) hr⟩
 exact all X.outer (fun _ hb=>hb) I.ok.mC
theorem Inv.stack (I:Inv X pins σ H s):s.heap.FunFrames X.base X.stack:=by
 rcases I.ok.L9 with e | ⟨e,hf⟩
 ·rw [e]; exact I.mC
 ·rw [e]
  obtain ⟨m,hn,_⟩:=I.loc
  refine .cons (by rw [I.ok.kind]; decide) hf hn ?_ I.mC
  exact Heap.get?_none_of_le (Nat.le_trans I.ok.zl I.ok.above)
theorem Inv.lC (I:Inv X pins σ H s):∀ b∈lj X.stack,b∈X.env.locals :: X.fs:=fun b hb=>by
 rcases I.ok.L9 with e | ⟨e,hf⟩
 ·rw [e] at hb; exact List.mem_cons_of_mem _ hb
 ·rw [e] at hb
  unfold lj at hb
  rw [List.filterMap_cons,hf] at hb
  exact hb
theorem Inv.sJ (I:Inv X pins σ H s):∀ b∈lj X.stack,H b=none:=fun b hb=>by
 rcases List.mem_cons.mp (I.lC b hb) with e | hb
 ·rw [e]; exact I.free
 ·obtain ⟨_,o,ho,_⟩:=I.ok.mC.mem hb
  exact I.base.free b o ho (I.ok.HI b hb) fun z=>I.ok.BU b z hb
theorem Inv.step {g':Array GenState} {t':Nat} {d':Drawn} {ch:List Addr} (I:Inv X pins σ H s)
  (ET:∀ b∈ch,(b∈X.ex \/ X.fS.heap.objs.size<=b) /\ b≠X.env.locals /\ (∀ x c,X.env.cells.lookup x=some c->c≠b) /\ ∀ p∈X.pn ++ pins,p.1≠b)
  (keep:∀ b o,b≠X.env.locals->b∉X.fs->b∉ch->s.heap.get? b=some o->H b=none->h'.get? b=some o)
  (slot:∀ b o,b≠X.env.locals->b∈X.fs->b∉ch->s.heap.get? b=some o->H b=none->∃ sl,h'.get? b=some { o with slots:=sl }) (free:∀ b o,b∉ch->s.heap.get? b=some o->H b=none->H' b=none)
  (there:∀ b o,b∉ch->s.heap.get? b=some o->∃ o',h'.get? b=some o')
  (pz:∀ b xs,H b=some (.tup xs)->H' b=some (.tup xs)) (qR:∀ b o u,H b=some (.qP o u)->H' b=some (.qP o u)) (sI:∀ b ps,H b=some (.IL ps)->∃ more,H' b=some (.IL (ps ++ more)))
  (ns:∀ m,s.heap.Ns X.env.locals m->h'.Ns X.env.locals m) (cg:lh X.prog X.w H' h') (hg:AllBare g'):
  Inv X pins σ H' { s with heap:=h',gens:=g',drawn:=d',toks:=t' }:=by
 have Wx:∀ b o,X.fS.heap.get? b=some o->b≠X.env.locals:=fun b o e=>Nat.ne_of_lt (Nat.lt_of_lt_of_le (Heap.lt_size e) I.ok.above)
 have Oo:∀ b o,X.fS.heap.get? b=some o->b∉X.ex->b∉ch:=fun b o e hx hb=>by
  rcases (ET b hb).1 with z | z
  ·exact hx z
  ·exact absurd (Nat.lt_of_lt_of_le (Heap.lt_size e) z) (Nat.lt_irrefl _)
 have cellK:∀ x c,X.env.cells.lookup x=some c->∀ v,s.heap.IsCell c v->h'.IsCell c v:=fun x c e v ⟨o,ho,hd⟩=>by
  have Mb:c∉ch:=fun z=>(ET c z).2.2.1 x c e rfl
  by_cases hc:c∈X.fs
  ·obtain ⟨sl,q⟩:=slot c o (I.HJ x c e) hc Mb ho (I.jM x c e)
   exact ⟨_,q,hd⟩
  ·exact ⟨o,keep c o (I.HJ x c e) hc Mb ho (I.jM x c e),hd⟩
 refine ⟨I.ok,I.os,hg,⟨fun b o e n hb hx=>?_,fun b o e n hb hx=>?_,fun b o e n hx=>?_,fun b o e hx=>?_,fun b xs e=>pz b xs (I.base.pz b xs e),fun b o xs e=>qR b o xs (I.base.qR b o xs e),fun b ps e=>?_⟩,?_,fun x c e=>?_,?_,fun x c e=>?_,fun p hp=>?_,cg,I.len⟩
 ·exact keep b o (Wx b o e) hb (Oo b o e hx) (I.base.keep b o e n hb hx) (I.base.free b o e n hx)
 ·obtain ⟨sl,e1⟩:=I.base.slot b o e n hb hx
  obtain ⟨XY,e2⟩:=slot b _ (Wx b o e) hb (Oo b o e hx) e1 (I.base.free b o e n hx)
  exact ⟨XY,e2⟩
 ·obtain ⟨o',e1⟩:=I.base.there b o e hx
  exact free b o' (Oo b o e hx) e1 (I.base.free b o e n hx)
 ·obtain ⟨o',e1⟩:=I.base.there b o e hx
  exact there b o' (Oo b o e hx) e1
 ·obtain ⟨m1,e1⟩:=I.base.sI b ps e
  obtain ⟨m2,e2⟩:=sI b _ e1
  exact ⟨m1 ++ m2,by rw [e2,Array.append_assoc]⟩
 ·obtain ⟨m,hn,hl⟩:=I.loc
  refine ⟨m,ns m hn,fun i x v e1 e2 e3=>?_⟩
  obtain ⟨u,r,l⟩:=hl i x v e1 e2 e3
  refine ⟨u,r,?_⟩
  rcases l with l | ⟨k,c,e,z⟩
  ·exact .inl l
  ·exact .inr ⟨k,c,e,cellK x c e _ z⟩
 ·obtain ⟨v,z⟩:=I.cell x c e
  exact ⟨v,cellK x c e v z⟩
 ·obtain ⟨m,⟨o,_,_,ho,_⟩,_⟩:=I.loc
  exact free _ o (fun z=>(ET _ z).2.1 rfl) ho I.free
 ·obtain ⟨v,o,ho,hd⟩:=I.cell x c e
  exact free c o (fun z=>(ET c z).2.2.1 x c e rfl) ho (I.jM x c e)
 ·obtain ⟨e,n,ne,nf,d⟩:=I.pin p hp
  have Mb:p.1∉ch:=fun z=>(ET p.1 z).2.2.2 p hp rfl
  exact ⟨keep p.1 p.2 ne nf Mb e n,free p.1 p.2 Mb e n,ne,nf,d⟩
theorem Inv.un {t':Nat} (I:Inv X pins σ H s) (u:Un X.fs [] H H' s.heap h') (cg:lh X.prog X.w H' h'):Inv X pins σ H' { s with heap:=h',toks:=t' }:=by
 obtain ⟨m,⟨o,es,ep,ho,r⟩,_⟩:=id I.loc
 obtain ⟨sl,hL⟩:=u.any ho I.free (by simp)
 exact I.step (g':=s.gens) (d':=s.drawn) (ch:=[]) (fun _ z=>nomatch z) (fun b o _ hb _ e n=>u.keep b o e n hb (by simp)) (fun b o _ hb _ e n=>u.slot b o e n hb (by simp)) (fun b o _ e n=>u.free b o e n (by simp)) (fun b o _ e=>u.there b o e (by simp)) u.pz u.qR u.sI (fun m' hm=>by
  obtain ⟨o',uV,OZ,BV,r'⟩:=hm
  rw [ho] at BV; cases BV
  exact ⟨_,uV,OZ,hL,r'⟩) cg I.bare
theorem Inv.call {g':Array GenState} {t':Nat} {d':Drawn} {ch:List Addr} (I:Inv X pins σ H s) (u:Un (lj X.stack) ch H H' s.heap h') (cg:lh X.prog X.w H' h') (hg:AllBare g')
  (ET:∀ b∈ch,(b∈X.ex \/ X.fS.heap.objs.size<=b) /\ b≠X.env.locals /\ (∀ x c,X.env.cells.lookup x=some c->c≠b) /\ ∀ p∈X.pn ++ pins,p.1≠b):
  Inv X pins σ H' { s with heap:=h',gens:=g',drawn:=d',toks:=t' }:=by
 obtain ⟨m,⟨o,es,ep,ho,r⟩,_⟩:=id I.loc
 obtain ⟨sl,hL⟩:=u.any ho I.free fun z=>(ET _ z).2.1 rfl
 exact I.step (ch:=ch) ET (fun b o hL hb hc e n=>u.keep b o e n (fun z=>(List.mem_cons.mp (I.lC b z)).elim hL hb) hc) (fun b o _ _ hc e n=>u.any e n hc) (fun b o hc e n=>u.free b o e n hc) (fun b o hc e=>u.there b o e hc) u.pz u.qR u.sI (fun m' hm=>by
  obtain ⟨o',uV,OZ,BV,r'⟩:=hm
  rw [ho] at BV; cases BV
  exact ⟨_,uV,OZ,hL,r'⟩) cg hg
theorem Inv.turned {t':Nat} {it:Addr} (I:Inv X pins σ H s) (k:∀ b o,b≠it->s.heap.get? b=some o->h'.get? b=some o) (hn:H it=none) (hL:it≠X.env.locals)
  (h1:it∈X.ex \/ X.fS.heap.objs.size<=it) (h2:∀ x c,X.env.cells.lookup x=some c->c≠it) (h3:∀ p∈X.pn ++ pins,p.1≠it):Inv X pins σ H { s with heap:=h',toks:=t' }:=by
 have Mc:∀ b u,H b=some u->b≠it:=fun b u e z=>by rw [z,hn] at e; cases e
 refine I.step (g':=s.gens) (d':=s.drawn) (ch:=[it]) (fun b hb=>?_) (fun b o _ _ hc e _=>k b o (fun z=>hc (by simp [z])) e) (fun b o _ _ hc e _=>⟨o.slots,k b o (fun z=>hc (by simp [z])) e⟩) (fun _ _ _ _ n=>n)
  (fun b o hc e=>⟨o,k b o (fun z=>hc (by simp [z])) e⟩) (fun _ _ e=>e) (fun _ _ _ e=>e) (fun b ps e=>⟨#[],by rw [e]; simp⟩) (fun m hm=>?_) (fun b u e=>?_) I.bare
 ·have e:b=it:=by simpa using hb
  subst e
  exact ⟨h1,hL,h2,h3⟩
 ·obtain ⟨o,es,ep,ho,r⟩:=hm
  exact ⟨o,es,ep,k _ o (Ne.symm hL) ho,r⟩
 ·refine (I.cg b u e).qQ (fun c v hc q=>k c v ?_ q) (fun _ q=>q) (fun _ _ q=>q) fun _ _ q=>q
  rcases hc with z | z
  ·rw [z]; exact Mc b u e
  ·exact Mc c _ z
theorem Inv.tok (I:Inv X pins σ H s) (t:Nat):Inv X pins σ H { s with toks:=t }:=I.un (h':=s.heap) (t':=t) Un.refl I.cg
theorem Inv.kept {t':Nat} (I:Inv X pins σ H s) (k:∀ b u,s.heap.get? b=some u->h'.get? b=some u):Inv X pins σ H { s with heap:=h',toks:=t' }:=I.un (Un.kept k) (I.cg.kept k)
theorem Inv.laid {a:Addr} {o:HO} {t':Nat} (I:Inv X pins σ H s) (k:∀ b u,s.heap.get? b=some u->h'.get? b=some u) (hp:s.heap.objs.size<=a) (new:cy X.prog X.w (upd H a o) h' a o):
  Inv X pins σ (upd H a o) { s with heap:=h',toks:=t' }:=I.un (Un.laid k hp (I.cg.fresh hp)) (I.cg.laid k hp new)
theorem Inv.write {x e:Addr} {o:HO} {t':Nat} (I:Inv X pins σ H s) (mu:L6 (H x)) (he:e=x \/ H e=some (.own x)) (k:∀ b u,b≠e->s.heap.get? b=some u->h'.get? b=some u) (AA:∃ u,h'.get? e=some u)
  (new:cy X.prog X.w (upd H x o) h' x o):Inv X pins σ (upd H x o) { s with heap:=h',toks:=t' }:=I.un (Un.write mu he k AA) (I.cg.write mu he k AA new)
theorem Inv.kz {pins':List (Addr×Obj)} (I:Inv X pins σ H s) (h:∀ p∈pins',s.heap.get? p.1=some p.2 /\ H p.1=none /\ p.1≠X.env.locals /\ p.1∉X.fs /\ ∀ v,p.2.data≠.cell v):Inv X pins' σ H s:=
 ⟨I.ok,I.os,I.bare,I.base,I.loc,I.cell,I.free,I.jM,fun p hp=>(List.mem_append.mp hp).elim (fun z=>I.pin p (List.mem_append_left _ z)) (h p),I.cg,I.len⟩
theorem uW {N:List Str} (hN:N.Nodup) {i j:Nat} {x:Str} (a:N[i]?=some x) (b:N[j]?=some x):i=j:=by
 obtain ⟨h1,e1⟩:=List.getElem?_eq_some_iff.mp a
 obtain ⟨h2,e2⟩:=List.getElem?_eq_some_iff.mp b
 exact (List.getElem_inj hN).mp (e1.trans e2.symm)
theorem rN {M:Model} {A:Around} {E:Value->Shared->Prop} {i:Nat} {x:Str} {v:V} {u:Value} {Q:Unit->Shared->Prop} (I:Inv X pins σ H s) (hN:X.N.Nodup) (hi:X.N[i]?=some x) (hx:Loc X.env.scope x) (r:RelV v u)
  (h:∀ s',Inv X pins (σ.set i (some v)) H s'->(∃ a,Heap.SameBut a s.heap s'.heap /\ (a=X.env.locals \/ X.env.cells.lookup x=some a))->Q () s') (hf:X.fn x=true \/ X.env.scope.names.lookup x=some .local):wpAny M A (storeName X.env x u) Q E s:=by
 obtain ⟨m,hn,hl⟩:=id I.loc
 have O0:(X.env.scope.kind == .class || (X.env.scope.kind == .module && X.env.locals != X.env.globals))=false:=by rw [I.ok.kind]; rfl
 have Md:i < σ.length:=by rw [I.len]; exact (List.getElem?_eq_some_iff.mp hi).1
 have HJ:=I.HJ
 have tracked:∀ {a:Addr} {h':Heap},(∃ o,s.heap.get? a=some o /\ H a=none)->Heap.SameBut a s.heap h'->lh X.prog X.w H h':=fun {a h'} ha hs b ob e=>by
  obtain ⟨_,_,HK⟩:=ha
  refine (I.cg b ob e).qQ (fun c w' hc q=>(hs.2 c ?_).trans q) (fun _ q=>q) (fun _ _ q=>q) fun _ _ q=>q
  rintro rfl
  rcases hc with rfl | hc
  ·rw [HK] at e; cases e
  ·rw [HK] at hc; cases hc
 rcases hx with hk | hk
 ·refine wpAny_storeName_local hk hn (fun h' XZ hs=>?_) O0
  obtain ⟨oL,_,_,HL,_⟩:=id hn
  refine h _ ⟨I.ok,I.os,I.bare,⟨fun b o e n hb hx=>?_,fun b o e n hb hx=>?_,I.base.free,fun b o e hx=>?_,I.base.pz,I.base.qR,I.base.sI⟩,⟨_,XZ,fun j y v' e1 e2 e3=>?_⟩,fun y c e=>?_,I.free,I.jM,fun p hp=>?_,tracked ⟨oL,HL,I.free⟩ hs,by simpa using I.len⟩ ⟨_,hs,.inl rfl⟩
  ·exact (hs.2 b (Nat.ne_of_lt (Nat.lt_of_lt_of_le (Heap.lt_size e) I.ok.above))).trans (I.base.keep b o e n hb hx)
  ·obtain ⟨sl,e1⟩:=I.base.slot b o e n hb hx
   exact ⟨sl,(hs.2 b (Nat.ne_of_lt (Nat.lt_of_lt_of_le (Heap.lt_size e) I.ok.above))).trans e1⟩
  ·obtain ⟨o',e1⟩:=I.base.there b o e hx
   exact ⟨o',(hs.2 b (Nat.ne_of_lt (Nat.lt_of_lt_of_le (Heap.lt_size e) I.ok.above))).trans e1⟩
  ·by_cases hj:j=i
   ·subst hj
    rw [hi] at e1; cases e1
    rw [List.getElem?_set_self Md] at e2
    cases e2
    exact ⟨u,r,.inl ⟨hk,by simp⟩⟩
   ·rw [List.getElem?_set_ne (Ne.symm hj)] at e2
    obtain ⟨u',r',q⟩:=hl j y v' e1 e2 e3
    refine ⟨u',r',?_⟩
    rcases q with ⟨k,e⟩ | ⟨k,c,e,z⟩
    ·refine .inl ⟨k,?_⟩
     have:y≠x:=fun e=>hj (uW hN e1 (e ▸ hi))
     simp [this,e]
    ·exact .inr ⟨k,c,e,z.sameBut hs (HJ y c e)⟩
  ·obtain ⟨w',z⟩:=I.cell y c e
   exact ⟨w',z.sameBut hs (HJ y c e)⟩
  ·obtain ⟨e,n,ne,nf,d⟩:=I.pin p hp
   exact ⟨(hs.2 p.1 ne).trans e,n,ne,nf,d⟩
 ·have IT:X.fn x=true:=by
   rcases hf with z | z
   ·exact z
   ·rw [z] at hk; cases hk
  obtain ⟨c,hc⟩:=I.ok.has x (.inl hk)
  obtain ⟨w',z⟩:=I.cell x c hc
  refine wpAny_storeName_cell I.ok.kind hk hc z (fun h' LC hs=>?_)
  obtain ⟨oc,Wy,O1⟩:=id z
  refine h { s with heap:=h' } ⟨I.ok,I.os,I.bare,⟨fun b o e n hb hx=>?_,fun b o e n hb hx=>?_,I.base.free,fun b o e hx=>?_,I.base.pz,I.base.qR,I.base.sI⟩,⟨m,hn.sameBut hs (Ne.symm (HJ x c hc)),fun j y v' e1 e2 e3=>?_⟩,fun y c' e=>?_,I.free,I.jM,fun p hp=>?_,tracked ⟨oc,Wy,I.jM x c hc⟩ hs,by simpa using I.len⟩ ⟨c,hs,.inr hc⟩
  ·exact (hs.2 b (Nat.ne_of_lt (Nat.lt_of_lt_of_le (Heap.lt_size e) (I.ok.IQ x c IT hc)))).trans (I.base.keep b o e n hb hx)
  ·obtain ⟨sl,e1⟩:=I.base.slot b o e n hb hx
   exact ⟨sl,(hs.2 b (Nat.ne_of_lt (Nat.lt_of_lt_of_le (Heap.lt_size e) (I.ok.IQ x c IT hc)))).trans e1⟩
  ·obtain ⟨o',e1⟩:=I.base.there b o e hx
   exact ⟨o',(hs.2 b (Nat.ne_of_lt (Nat.lt_of_lt_of_le (Heap.lt_size e) (I.ok.IQ x c IT hc)))).trans e1⟩
  ·by_cases hj:j=i
   ·subst hj
    rw [hi] at e1; cases e1
    rw [List.getElem?_set_self Md] at e2
    cases e2
    exact ⟨u,r,.inr ⟨.inl hk,c,hc,LC⟩⟩
   ·rw [List.getElem?_set_ne (Ne.symm hj)] at e2
    obtain ⟨u',r',q⟩:=hl j y v' e1 e2 e3
    refine ⟨u',r',?_⟩
    rcases q with q | ⟨k,c',e,z'⟩
    ·exact .inl q
    ·refine .inr ⟨k,c',e,z'.sameBut hs ?_⟩
     rintro rfl
     exact hj (uW hN e1 (I.ok.inj _ _ _ e hc ▸ hi))
  ·by_cases IU:c'=c
   ·subst IU; exact ⟨_,LC⟩
   ·obtain ⟨w2,z2⟩:=I.cell y c' e
    exact ⟨w2,z2.sameBut hs IU⟩
  ·obtain ⟨e,n,ne,nf,d⟩:=I.pin p hp
   refine ⟨(hs.2 p.1 ?_).trans e,n,ne,nf,d⟩
   intro q
   rw [q,Wy] at e
   have q':oc=p.2:=Option.some.inj e
   exact d w' (by rw [<- q']; exact O1)
theorem mD {M:Model} {A:Around} {E:Value->Shared->Prop} {i:Nat} {x:Str} {v:V} {u:Value} {Q:Unit->Shared->Prop} (I:Inv X pins σ H s) (hN:X.N.Nodup) (hi:X.N[i]?=some x) (hx:Loc X.env.scope x) (r:RelV v u)
  (h:∀ s',Inv X pins (σ.set i (some v)) H s'->Q () s') (hf:X.fn x=true \/ X.env.scope.names.lookup x=some .local):wpAny M A (storeName X.env x u) Q E s:=
 rN I hN hi hx r (fun s' I' _=>h s' I') hf
theorem Inv.Me {s':Shared} {ch:List Addr} (I:Inv X pins σ H s) (ho:s'.os=s.os) (u:Un (lj X.stack) ch H H' s.heap s'.heap) (cg:lh X.prog X.w H' s'.heap) (hg:AllBare s'.gens)
  (ET:∀ b∈ch,(b∈X.ex \/ X.fS.heap.objs.size<=b) /\ b≠X.env.locals /\ (∀ x c,X.env.cells.lookup x=some c->c≠b) /\ ∀ p∈X.pn ++ pins,p.1≠b):Inv X pins σ H' s':=by
 obtain ⟨h',g',d',t',o'⟩:=s'
 have e:o'=s.os:=ho
 subst e
 exact I.call (g':=g') (t':=t') (d':=d') u cg hg ET
end
abbrev XK:=Value->Option Addr->Hp->Prop
abbrev St:=List (Option V)
abbrev VK:=V->Hp->Prop
abbrev TE:=St->Hp->VK->Prop
abbrev TT:=St->Hp->(Bool->Hp->Prop)->Prop
abbrev TA:=St->Hp->(List V->Hp->Prop)->Prop
structure Ends where
 nx:St->Hp->Prop
 rt:VK
 bk:St->Hp->Prop:=fun _ _=>False
 ct:St->Hp->Prop:=fun _ _=>False
abbrev TS:=Ends->St->Hp->Prop
def EP (X:Cx) (pins:List (Addr×Obj)) (σ:St) (Q:VK) (u:Value) (s':Shared):Prop:=∃ v H',Inv X pins σ H' s' /\ RelV v u /\ Q v H'
def TP (X:Cx) (pins:List (Addr×Obj)) (σ:St) (Q:Bool->Hp->Prop) (b:Bool) (s':Shared):Prop:=∃ H',Inv X pins σ H' s' /\ Q b H'
def AP (X:Cx) (pins:List (Addr×Obj)) (σ:St) (Q:List V->Hp->Prop) (us:List Value) (s':Shared):Prop:=∃ vs H',Inv X pins σ H' s' /\ bw vs us /\ Q vs H'
def SP (X:Cx) (pins:List (Addr×Obj)) (D:Ends) (f:Flow) (s':Shared):Prop:=
 match f with
 | .next=>∃ cZ H',Inv X pins cZ H' s' /\ D.nx cZ H'
 | .brk=>∃ cZ H',Inv X pins cZ H' s' /\ D.bk cZ H'
 | .cont=>∃ cZ H',Inv X pins cZ H' s' /\ D.ct cZ H'
 | .ret u=>∃ v cZ H',Inv X pins cZ H' s' /\ RelV v u /\ D.rt v H'
def PE (X:Cx) (e:Expr) (t:TE):Prop:=
 ∀ (pins:List (Addr×Obj)) (s:Shared) (σ:St) (H:Hp) (Q:VK),Inv X pins σ H s->t σ H Q->wpAny (model X.prog X.w) X.A (eval e X.env) (EP X pins σ Q) X.xe s
def PT (X:Cx) (e:Expr) (t:TT):Prop:=
 ∀ (pins:List (Addr×Obj)) (s:Shared) (σ:St) (H:Hp) (Q:Bool->Hp->Prop),Inv X pins σ H s->t σ H Q->wpAny (model X.prog X.w) X.A (isTrue e X.env (eval e X.env)) (TP X pins σ Q) X.xe s
def PW (X:Cx) (e:Expr) (t:TT):Prop:=
 ∀ (whole:Sem Value) (pins:List (Addr×Obj)) (s:Shared) (σ:St) (H:Hp) (Q:Bool->Hp->Prop),Inv X pins σ H s->t σ H Q->wpAny (model X.prog X.w) X.A (isTrue e X.env whole) (TP X pins σ Q) X.xe s
theorem PW.pt {X:Cx} {e:Expr} {t:TT} (h:PW X e t):PT X e t:=h _
def PA (X:Cx) (es:List Expr) (t:TA):Prop:=
 ∀ (pos:Pos) (pins:List (Addr×Obj)) (s:Shared) (σ:St) (H:Hp) (Q:List V->Hp->Prop),Inv X pins σ H s->t σ H Q->wpAny (model X.prog X.w) X.A (spliced (backTo pos (starEach es X.env))) (AP X pins σ Q) X.xe s
def PS (X:Cx) (st:Stmt) (t:TS):Prop:=
 ∀ (pins:List (Addr×Obj)) (s:Shared) (σ:St) (H:Hp) (D:Ends),Inv X pins σ H s->t D σ H->wpAny (model X.prog X.w) X.A (exec st X.env) (SP X pins D) X.xe s
def mE (X:Cx) (st:List Stmt) (t:TS):Prop:=
 ∀ (pins:List (Addr×Obj)) (s:Shared) (σ:St) (H:Hp) (D:Ends),Inv X pins σ H s->t D σ H->wpAny (model X.prog X.w) X.A (execs st X.env) (SP X pins D) X.xe s
theorem dZ {α:Type} {t:Sem α} {Q Q':α->Shared->Prop} {M:Model} {A:Around} {E:Value->Shared->Prop} {s:Shared} (h:wpAny M A t Q E s) (hQ:∀ a s,Q a s->Q' a s):wpAny M A t Q' E s:=wpAny_mono h hQ fun _ _ x=>x
section
variable {X:Cx}
def uX (i:Nat):TE:=fun σ H Q=>∃ v,σ[i]?=some (some v) /\ Q v H
def tC (v:V):TE:=fun _ H Q=>Q v H
theorem IV {i:Nat} {x:Str} {pos:Pos} (hN:X.N[i]?=some x) (hv:L8 X.env.scope x) (hd:(x == ("__debug__":Str))=false:=by decide) (qT:(x == ("__classdict__":Str))=false:=by decide):PE X (.Name x pos) (uX i):=by
 intro pins s σ H Q I h
 obtain ⟨v,e,h⟩:=h
 obtain ⟨m,hn,hl⟩:=I.loc
 obtain ⟨u,r,l⟩:=hl i x v hN e hv
 have fin:EP X pins σ Q u s:=⟨v,H,I,r,h⟩
 rcases l with ⟨hk,hm⟩ | ⟨hk,c,hc,zm⟩
 ·exact wpAny_Name (wpAny_loadName_local I.ok.kind hk hn hm fin) hd
 ·rcases hk with hk | hk
  ·exact wpAny_Name (wpAny_loadName_cell I.ok.kind hk hc zm fin) hd
  ·exact wpAny_Name (wpAny_loadName_free I.ok.kind hk hc zm fin qT) hd
theorem ah {i j pos}:PE X (.Constant (.int i) j pos) (tC (.int i)):=fun _ _ _ H _ I h=>wpAny_Constant_int ⟨.int i,H,I.tok _,⟨_,rfl⟩,h⟩
theorem ll {b j pos}:PE X (.Constant (.bool b) j pos) (tC (.bl b)):=fun _ _ _ H _ I h=>Constant_bool ⟨.bl b,H,I,rfl,h⟩
theorem xq {x j pos}:PE X (.Constant (.str x) j pos) (tC (.str x)):=fun _ _ _ H _ I h=>Calls.Constant_str ⟨.str x,H,I.tok _,⟨_,rfl⟩,h⟩
def Gl (X:Cx) (x:Str):Prop:=X.env.kindOf x=some .globalImplicit
theorem zo {E:Value->Shared->Prop} {pins:List (Addr×Obj)} {s:Shared} {σ:St} {H:Hp} {x:Str} {u:Value} {pos:Pos} {Q:Value->Shared->Prop} (I:Inv X pins σ H s) (hg:Gl X x) (hm:X.mg x=some u) (h:Q u s)
  (hd:(x == ("__debug__":Str))=false:=by decide):wpAny (model X.prog X.w) X.A (eval (.Name x pos) X.env) Q E s:=
 Calls.Name_function_global I.ok.kind hg (Calls.loadGlobal_global (by rw [I.ok.glob]; exact I.mod.glob.keeps I.bk) hm h) hd
theorem iB {E:Value->Shared->Prop} {pins:List (Addr×Obj)} {s:Shared} {σ:St} {H:Hp} {x:Str} {u:Value} {pos:Pos} {Q:Value->Shared->Prop} (I:Inv X pins σ H s) (hg:Gl X x) (hm:X.mg x=none) (hv:bootBuiltins x=some u) (h:Q u s)
  (hn:x≠"__name__":=by decide) (hd:(x == ("__debug__":Str))=false:=by decide):wpAny (model X.prog X.w) X.A (eval (.Name x pos) X.env) Q E s:=by
 obtain ⟨mb,h1,h2⟩:=I.mod.blt
 exact Calls.Name_function_global I.ok.kind hg (Calls.loadGlobal_builtin (by rw [I.ok.glob]; exact I.mod.glob.keeps I.bk) hm (by rw [I.ok.blt]; exact h1.keeps I.bk) ((h2 x hn).trans hv) h) hd
theorem Ff {x:Str} {v:V} {u:Value} {pos:Pos} (hg:Gl X x) (hm:X.mg x=some u) (r:RelV v u) (hd:(x == ("__debug__":Str))=false:=by decide):PE X (.Name x pos) (tC v):=
 fun _ _ _ H _ I h=>zo I hg hm ⟨v,H,I,r,h⟩ hd
theorem sL {x:Str} {v:V} {u:Value} {pos:Pos} (hg:Gl X x) (hm:X.mg x=none) (hv:bootBuiltins x=some u) (r:RelV v u) (hn:x≠"__name__":=by decide) (hd:(x == ("__debug__":Str))=false:=by decide):PE X (.Name x pos) (tC v):=
 fun _ _ _ H _ I h=>iB I hg hm hv ⟨v,H,I,r,h⟩ hn hd
variable {a b:Expr} {ta tb:TE} {pos:Pos}
variable {tA Oq:TT} {rest:List Expr}
def O2 (t u:TT):TT:=fun σ H Q=>t σ H fun c H1=>if c=true then u σ H1 Q else Q false H1
def X0 (t u:TT):TT:=fun σ H Q=>t σ H fun c H1=>if c=true then Q true H1 else u σ H1 Q
def O3 (t:TT):TT:=fun σ H Q=>t σ H fun c H1=>Q (!c) H1
theorem pw_and1 (ha:PT X a tA):PW X (.BoolOp .And [a] pos) tA:=by
 intro wh pins s σ H Q I h
 refine isTrue_and (dZ (ha pins s σ H Q I h) fun c s1 e=>?_)
 cases c with
 | true=>exact isTrue_and_nil e
 | false=>exact e
theorem pw_or1 (ha:PT X a tA):PW X (.BoolOp .Or [a] pos) tA:=by
 intro wh pins s σ H Q I h
 refine isTrue_or (dZ (ha pins s σ H Q I h) fun c s1 e=>?_)
 cases c with
 | false=>exact isTrue_or_nil e
 | true=>exact e
theorem pw_and (ha:PT X a tA) (hb:PW X (.BoolOp .And (b :: rest) pos) Oq):PW X (.BoolOp .And (a :: b :: rest) pos) (O2 tA Oq):=by
 intro wh pins s σ H Q I h
 refine isTrue_and (dZ (ha pins s σ H _ I h) fun c s1 ⟨H1,I1,q1⟩=>?_)
 cases c with
 | true=>exact hb wh pins s1 σ H1 Q I1 q1
 | false=>exact ⟨H1,I1,q1⟩
theorem pw_or (ha:PT X a tA) (hb:PW X (.BoolOp .Or (b :: rest) pos) Oq):PW X (.BoolOp .Or (a :: b :: rest) pos) (X0 tA Oq):=by
 intro wh pins s σ H Q I h
 refine isTrue_or (dZ (ha pins s σ H _ I h) fun c s1 ⟨H1,I1,q1⟩=>?_)
 cases c with
 | true=>exact ⟨H1,I1,q1⟩
 | false=>exact hb wh pins s1 σ H1 Q I1 q1
theorem IW (ha:PT X a tA):PT X (.UnaryOp .Not a pos) (O3 tA):=by
 intro pins s σ H Q I h
 exact isTrue_not (ha pins s σ H (fun c H1=>Q (!c) H1) I h)
def Mf (ta tb:TE):TE:=fun σ H Q=>ta σ H fun x H1=>∃ c,x=.bl c /\ if c=true then tb σ H1 Q else Q (.bl false) H1
def Mg (ta:TE):TE:=fun σ H Q=>ta σ H fun x H1=>∃ c,x=.bl c /\ Q (.bl (!c)) H1
theorem xr {op} {t:TE} (h:PE X a t):PE X (.BoolOp op [a] pos) t:=fun pins s σ H Q I hw=>BoolOp_one (h pins s σ H Q I hw)
theorem IX (ha:PE X a ta) (hb:PE X (.BoolOp .And (b :: rest) pos) tb):PE X (.BoolOp .And (a :: b :: rest) pos) (Mf ta tb):=by
 intro pins s σ H Q I h
 refine BoolOp_and (dZ (ha pins s σ H _ I h) fun v s1 ⟨x,H1,I1,r1,q1⟩=>?_)
 obtain ⟨c,rfl,q1⟩:=q1
 cases r1
 refine wpAny_truthy_bool ?_
 cases c with
 | true=>exact hb pins s1 σ H1 Q I1 q1
 | false=>exact ⟨.bl false,H1,I1,rfl,q1⟩
theorem IY (ha:PE X a ta):PE X (.UnaryOp .Not a pos) (Mg ta):=by
 intro pins s σ H Q I h
 refine UnaryOp_ (dZ (ha pins s σ H _ I h) fun v s1 ⟨x,H1,I1,r1,q1⟩=>?_)
 obtain ⟨c,rfl,q1⟩:=q1
 cases r1
 exact not_of (wpAny_truthy_bool ⟨.bl (!c),H1,I1,rfl,q1⟩)
end
def iC (K:PySem.W.Frag) (H:Hp) (a:Addr) (xs:List V):Prop:=
 Rd H a (.lst xs) \/
  ∃ (o:Obj) (its:Array Value) (n:Nat),K.lookup a=some o /\ o.cls=.type "list" /\ o.dict=none /\ o.data=.seq its n /\ its.size<=sizeLine /\ bw xs its.toList
def jn (K:PySem.W.Frag) (H:Hp) (a:Addr) (xs:List V):Prop:=
 Rd H a (.tup xs) \/
  ∃ (o:Obj) (its:Array Value) (n:Nat),K.lookup a=some o /\ o.cls=.type "tuple" /\ o.data=.seq its n /\ its.size<=sizeLine /\ bw xs its.toList
def O4:Value->Option V
 | .none=>some .h8
 | .bool b=>some (.bl b)
 | .int i _=>some (.int i)
 | .str x _=>some (.str x)
 | .bytes b _=>some (.L3 b)
 | .float b _=>some (.LB b)
 | .ref a=>some (.ref a)
 | .type n=>some (.ty n)
 | _=>none
theorem RelV.abs {x:V} {u:Value} (r:RelV x u):O4 u=some x:=by
 cases x with
 | h8=>cases r; rfl
 | bl _=>cases r; rfl
 | int _=>obtain ⟨t,rfl⟩:=r; rfl
 | str _=>obtain ⟨t,rfl⟩:=r; rfl
 | L3 _=>obtain ⟨t,rfl⟩:=r; rfl
 | LB _=>obtain ⟨t,rfl⟩:=r; rfl
 | ref _=>cases r; rfl
 | ty _=>cases r; rfl
theorem RelV.inj {x y:V} {u:Value} (r:RelV x u) (q:RelV y u):x=y:=Option.some.inj (r.abs.symm.trans q.abs)
theorem bw.inj:∀ {xs ys:List V} {us:List Value},bw xs us->bw ys us->xs=ys
 | _,_,_,.nil,.nil=>rfl
 | _,_,_,.cons r t,.cons r' t'=>by rw [r.inj r',bw.inj t t']
section
variable {X:Cx} {pins:List (Addr×Obj)} {σ:St} {H:Hp} {s:Shared} {a:Addr} {xs ys:List V}
theorem iC.of {K:PySem.W.Frag} (h:H a=some (.lst xs)):iC K H a xs:=.inl (.inl h)
theorem Inv.list (I:Inv X pins σ H s) (h:iC X.K H a xs):∃ its:List Value,bw xs its /\ PlainL s.heap a its.toArray /\ xs.length<=sizeLine:=by
 rcases h with h | ⟨o,its,n,hk,hc,hd,hs,hz,r⟩
 ·obtain ⟨z,its,n,r,e⟩:=h.ok I.cg
  exact ⟨its,r,⟨_,n,e,rfl,rfl,rfl⟩,z⟩
 ·refine ⟨its.toList,r,⟨o,n,I.qM a o hk,hc,hd,by simpa using hs⟩,?_⟩
  have e:=r.length
  simp only [Array.length_toList] at e
  omega
theorem Inv.tuple (I:Inv X pins σ H s) (h:jn X.K H a xs):∃ its:List Value,bw xs its /\ IsTup s.heap a its.toArray /\ xs.length<=sizeLine:=by
 rcases h with h | ⟨o,its,n,hk,hc,hs,hz,r⟩
 ·obtain ⟨z,its,r,p⟩:=h.ok I.cg
  exact ⟨its,r,p,z⟩
 ·refine ⟨its.toList,r,⟨o,I.qM a o hk,hc,n,by simpa using hs⟩,?_⟩
  have e:=r.length
  simp only [Array.length_toList] at e
  omega
theorem Inv.mF (I:Inv X pins σ H s) (h:iC X.K H a xs) (h':iC X.K H a ys):xs=ys:=by
 obtain ⟨its,r,⟨o,n,e,_,_,d⟩,_⟩:=I.list h
 obtain ⟨its',r',⟨o',n',e',_,_,d'⟩,_⟩:=I.list h'
 rw [e] at e'; cases e'
 rw [d] at d'
 injection d' with d1 _
 have:its=its':=by simpa using congrArg Array.toList d1
 subst this
 exact r.inj r'
theorem Inv.nu (I:Inv X pins σ H s) (h:jn X.K H a xs) (h':jn X.K H a ys):xs=ys:=by
 obtain ⟨its,r,⟨o,e,_,n,d⟩,_⟩:=I.tuple h
 obtain ⟨its',r',⟨o',e',_,n',d'⟩,_⟩:=I.tuple h'
 rw [e] at e'; cases e'
 rw [d] at d'
 injection d' with d1 _
 have:its=its':=by simpa using congrArg Array.toList d1
 subst this
 exact r.inj r'
end
abbrev Cx.qU (X:Cx) (E:Value->Shared->Prop):Cx:={ X with xe:=E }
abbrev Cx.EU (X:Cx):Cx:=X.qU fun _ _=>False
theorem Cx.Ok.qU {X:Cx} (ok:X.Ok) (E:Value->Shared->Prop):(X.qU E).Ok:=
 ⟨ok.mod,ok.kind,ok.glob,ok.blt,ok.above,ok.inj,ok.has,ok.IQ,ok.hd,ok.frames,ok.L9,ok.OY,ok.bs,ok.zl,ok.AD,ok.BU,ok.mC,ok.HI⟩
theorem Cx.Ok.j0 {X:Cx} {E:Value->Shared->Prop} (ok:(X.qU E).Ok):X.Ok:=
 ⟨ok.mod,ok.kind,ok.glob,ok.blt,ok.above,ok.inj,ok.has,ok.IQ,ok.hd,ok.frames,ok.L9,ok.OY,ok.bs,ok.zl,ok.AD,ok.BU,ok.mC,ok.HI⟩
section
variable {X:Cx} {pins:List (Addr×Obj)} {σ:St} {H:Hp} {s:Shared} {E:Value->Shared->Prop}
theorem Inv.qU (I:Inv X pins σ H s) (E:Value->Shared->Prop):Inv (X.qU E) pins σ H s:=⟨I.ok.qU E,I.os,I.bare,I.base,I.loc,I.cell,I.free,I.jM,I.pin,I.cg,I.len⟩
theorem Inv.j0 (I:Inv (X.qU E) pins σ H s):Inv X pins σ H s:=⟨I.ok.j0,I.os,I.bare,I.base,I.loc,I.cell,I.free,I.jM,I.pin,I.cg,I.len⟩
theorem SP.j0 {D:Ends} {f:Flow} {s':Shared} (h:SP (X.qU E) pins D f s'):SP X pins D f s':=by
 cases f with
 | next=>obtain ⟨cZ,H',I,q⟩:=h; exact ⟨cZ,H',I.j0,q⟩
 | brk=>obtain ⟨cZ,H',I,q⟩:=h; exact ⟨cZ,H',I.j0,q⟩
 | cont=>obtain ⟨cZ,H',I,q⟩:=h; exact ⟨cZ,H',I.j0,q⟩
 | ret u=>obtain ⟨v,cZ,H',I,r,q⟩:=h; exact ⟨v,cZ,H',I.j0,r,q⟩
theorem mE.EU {st:List Stmt} {t:TS} (h:mE X.EU st t):mE X st t:=fun pins s σ H D I hw=>
 wpAny_mono (h pins s σ H D (I.qU _) hw) (fun _ _ q=>q.j0) fun _ _ z=>False.elim z
end
section
variable {X:Cx} {st:Stmt} {rest:List Stmt} {t u:TS} {e:Expr} {te:TE} {pos:Pos}
def Mh:TS:=fun D σ H=>D.nx σ H
def O5 (t u:TS):TS:=fun D σ H=>t { D with nx:=u D } σ H
theorem Fg:mE X [] Mh:=fun _ _ σ H _ I h=>wpAny_execs_nil ⟨σ,H,I,h⟩
theorem BW (h1:PS X st t) (h2:mE X rest u):mE X (st :: rest) (O5 t u):=by
 intro pins s σ H D I h
 refine wpAny_execs_cons (dZ (h1 pins s σ H { D with nx:=u D } I h) fun f s1 q=>?_)
 cases f with
 | next=>
   obtain ⟨cZ,H',I',q⟩:=q
   exact h2 pins s1 cZ H' D I' q
 | ret v=>exact q
 | brk=>exact q
 | cont=>exact q
theorem Fh (h1:PS X st t):mE X [st] t:=by
 intro pins s σ H D I h
 refine wpAny_execs_cons (dZ (h1 pins s σ H D I h) fun f s1 q=>?_)
 cases f with
 | next=>exact wpAny_execs_nil q
 | ret v=>exact q
 | brk=>exact q
 | cont=>exact q
theorem Inv.quiet {pins:List (Addr×Obj)} {σ:St} {H:Hp} {s:Shared} (I:Inv X pins σ H s):interactive X.env=false:=by simp [interactive,I.ok.kind]
def zp (te:TE):TS:=fun D σ H=>te σ H fun _ H1=>D.nx σ H1
theorem eJ (he:PE X e te) (hs:swapsWith e none pos.line X.env=pure false:=by rfl):PS X (.Expr e pos) (zp te):=by
 intro pins s σ H D I h
 exact wpAny_Expr_any (dZ (he pins s σ H _ I h) fun v s1 ⟨x,H1,I1,r1,q1⟩=>⟨σ,H1,I1,q1⟩) I.quiet hs
def O6 (te:TE):TS:=fun D σ H=>te σ H D.rt
theorem xt (he:PE X e te):PS X (.Return (some e) pos) (O6 te):=by
 intro pins s σ H D I h
 exact wpAny_Return_some (dZ (he pins s σ H _ I h) fun v s1 ⟨x,H1,I1,r1,q1⟩=>⟨x,σ,H1,I1,r1,q1⟩)
def O7 (c:TT) (t u:TS):TS:=fun D σ H=>c σ H fun b H1=>if b=true then t D σ H1 else u D σ H1
theorem Mi {c:Expr} {a b:List Stmt} {tc:TT} (hc:PT X c tc) (ha:mE X a t) (hb:mE X b u):PS X (.If c a b pos) (O7 tc t u):=by
 intro pins s σ H D I h
 refine wpAny_If (dZ (hc pins s σ H _ I h) fun d s1 ⟨H1,I1,q1⟩=>?_)
 cases d with
 | true=>exact ha pins s1 σ H1 D I1 q1
 | false=>exact hb pins s1 σ H1 D I1 q1
def IZ:TS:=fun _ _ _=>False
theorem BX:PS X st IZ:=fun _ _ _ _ _ _ h=>h.elim
end
abbrev TG:=V->St->Hp->(St->Hp->Prop)->Prop
abbrev Fi:=List V->St->Hp->(St->Hp->Prop)->Prop
def PG (X:Cx) (target:Expr) (t:TG):Prop:=
 ∀ (pins:List (Addr×Obj)) (s:Shared) (σ:St) (H:Hp) (v:V) (u:Value) (Q:St->Hp->Prop),Inv X pins σ H s->RelV v u->t v σ H Q->
   wpAny (model X.prog X.w) X.A (assign target X.env u) (fun _ s'=>∃ cZ H',Inv X pins cZ H' s' /\ Q cZ H') X.xe s
def BY (X:Cx) (ts:List Expr) (t:Fi):Prop:=
 ∀ (pins:List (Addr×Obj)) (s:Shared) (σ:St) (H:Hp) (vs:List V) (us:List Value) (Q:St->Hp->Prop),Inv X pins σ H s->bw vs us->t vs σ H Q->
   wpAny (model X.prog X.w) X.A (assignInOrder ((assignEach ts X.env).map (·.2)) us) (fun _ s'=>∃ cZ H',Inv X pins cZ H' s' /\ Q cZ H') X.xe s
section
variable {X:Cx} {pos:Pos}
def jN (i:Nat):TG:=fun v σ H Q=>Q (σ.set i (some v)) H
theorem aN {i:Nat} {x:Str} (hN:X.N.Nodup) (hi:X.N[i]?=some x) (hx:Loc X.env.scope x) (hf:X.fn x=true \/ X.env.scope.names.lookup x=some .local:=by first | exact .inl rfl | exact .inr rfl | assumption):PG X (.Name x pos) (jN i):=by
 intro pins s σ H v u Q I r h
 exact wpAny_assign_Name (mD I hN hi hx r (fun s' I'=>⟨_,H,I',h⟩) hf)
def O8:Fi:=fun vs σ H Q=>vs=[] /\ Q σ H
def Mj (t:TG) (u:Fi):Fi:=fun vs σ H Q=>∃ v r,vs=v :: r /\ t v σ H fun cZ H'=>u r cZ H' Q
theorem Fj:BY X [] O8:=by
 intro pins s σ H vs us Q I r h
 obtain ⟨e,h⟩:=h
 subst e
 cases r
 exact assignInOrder_nil ⟨σ,H,I,h⟩
theorem BZ {e:Expr} {es:List Expr} {t:TG} {u:Fi} (h1:PG X e t) (h2:BY X es u)
  (hs:(assignEach (e :: es) X.env).map (·.2)=assign e X.env :: (assignEach es X.env).map (·.2):=by rfl):BY X (e :: es) (Mj t u):=by
 intro pins s σ H vs us Q I r h
 obtain ⟨v,vr,e1,h⟩:=h
 subst e1
 cases r with
 | cons r rr=>
   rw [hs]
   refine assignInOrder_cons (dZ (h1 pins s σ H _ _ _ I r h) fun _ s1 ⟨Ja,H1,I1,q1⟩=>?_)
   exact h2 pins s1 Ja H1 _ _ Q I1 rr q1
def O9 (K:PySem.W.Frag) (n:Nat) (t:Fi):TG:=fun v σ H Q=>∃ a xs,v=.ref a /\ jn K H a xs /\ xs.length=n /\ t xs σ H Q
theorem Jb {es:List Expr} {k:Nat} {t:Fi} {n:Nat} (hc:X.calm=true) (h:BY X es t)
  (hn:(assignEach es X.env).length=n:=by rfl) (Mk:(assignEach es X.env).findIdx? (·.1)=none:=by rfl):PG X (.Tuple es k pos) (O9 X.K n t):=by
 intro pins s σ H v u Q I r hw
 obtain ⟨a,xs,e1,hq,hl,hw⟩:=hw
 subst e1
 cases r
 obtain ⟨its,rv,ht,hz⟩:=I.tuple hq
 refine assign_Tuple_tuple (I.ok.hd hc) ht (by simp [hn,<- hl,rv.length]) Mk fun h' hx=>?_
 have I1:Inv X pins σ H { s with heap:=h' }:=I.kept (t':=s.toks) fun b o e=>hx b o (Nat.ne_of_lt (Heap.lt_size e)) e
 exact h pins _ σ H xs _ Q I1 (by simpa using rv) hw
def qV (te:TE) (g:TG):TS:=fun D σ H=>te σ H fun x H1=>g x σ H1 D.nx
theorem av {i:Nat} {x:Str} {e:Expr} {te:TE} {pos':Pos} (hN:X.N.Nodup) (hi:X.N[i]?=some x) (hx:Loc X.env.scope x) (he:PE X e te) (hs:swapsWith e (some (.Name x pos')) pos.line X.env=pure false:=by rfl) (hf:X.fn x=true \/ X.env.scope.names.lookup x=some .local:=by first | exact .inl rfl | exact .inr rfl | assumption):
  PS X (.Assign [.Name x pos'] e pos) (qV te (jN i)):=by
 intro pins s σ H D I h
 refine wpAny_Assign_Name (dZ (he pins s σ H _ I h) fun v s1 ⟨y,H1,I1,r1,q1⟩=>?_) hs
 exact mD I1 hN hi hx r1 (fun s2 I2=>⟨_,H1,I2,q1⟩) hf
def Ml (i j:Nat) (ta:TA):TS:=fun D σ H=>ta σ H fun vs H1=>∃ v w,vs=[v,w] /\ D.nx ((σ.set i (some v)).set j (some w)) H1
theorem Jc {i j:Nat} {x y:Str} {a b:Expr} {ta:TA} {px py pt:Pos} {kt k2 pt2} (hc:X.calm=true) (hN:X.N.Nodup) (hi:X.N[i]?=some x) (hj:X.N[j]?=some y) (i8:i≠j)
  (hx:X.env.scope.names.lookup x=some .local) (hy:X.env.scope.names.lookup y=some .local) (ha:PA X [a,b] ta)
  (hw:swappedStores [.Tuple [.Name x px,.Name y py] kt pt] (.Tuple [a,b] k2 pt2) X.env=pure (some [x,y]))
  (hs:swapsWithSole [.Tuple [.Name x px,.Name y py] kt pt] (.Tuple [a,b] k2 pt2) pos.line X.env=pure false:=by rfl):
  PS X (.Assign [.Tuple [.Name x px,.Name y py] kt pt] (.Tuple [a,b] k2 pt2) pos) (Ml i j ta):=by
 intro pins s σ H D I h
 rw [exec_Assign_arm]
 refine wpAny_bind (wpAny_standAt ?_)
 rw [hs]
 refine wpAny_bind (wpAny_pure ?_)
 rw [if_neg (by decide)]
 refine wpAny_bind (Tuple_ (dZ (ha _ pins s σ H _ I h) fun us s1 ⟨vs,H1,I1,r1,q1⟩=>?_))
 obtain ⟨v,w,e1,q1⟩:=q1
 subst e1
 obtain ⟨u1,u2,rfl,rv,xu⟩:∃ u1 u2,us=[u1,u2] /\ RelV v u1 /\ RelV w u2:=by
  cases r1 with
  | cons p q=>
    cases q with
    | cons p' q'=>
      cases q'
      exact ⟨_,_,rfl,p,p'⟩
 refine wpAny_newObj_type ?_ (by show 2<=sizeLine; decide)
 have I2:Inv X pins σ H1 { s1 with heap:=s1.heap.push { cls:=.type "tuple",data:=.seq [u1,u2].toArray } }:=I1.kept (t':=s1.toks) fun b o e=>Heap.get?_push_of_some _ e
 rw [hw]
 refine wpAny_bind (wpAny_pure ?_)
 show wpAny (model X.prog X.w) X.A (do rule "assign.swapped-stores"; let items <- unpackItems (.ref s1.heap.objs.size) 2 none; assignInOrder [fun v=>bindName X.env y v,fun v=>bindName X.env x v] items.reverse; pure Flow.next) _ _ _
 refine wpAny_bind (wpAny_rule (wpAny_bind (unpackItems_tuple (items:=#[u1,u2]) (I.ok.hd hc) (IsTup.new s1.heap _) fun h' Pa=>?_)))
 have I3:=I2.kept (h':=h') (t':=s1.toks) fun b o e=>Pa b o (Nat.ne_of_lt (Heap.lt_size e)) e
 show wpAny _ _ (assignInOrder [fun v=>bindName X.env y v,fun v=>bindName X.env x v] [u2,u1] >>= fun _=>pure Flow.next) _ _ _
 refine wpAny_bind (assignInOrder_cons (wpAny_bindName (mD I3 hN hj (.inl hy) xu (fun s2 I4=>?_) (.inr hy))))
 refine assignInOrder_cons (wpAny_bindName (mD I4 hN hi (.inl hx) rv (fun s3 I5=>assignInOrder_nil (wpAny_pure ?_)) (.inr hx)))
 rw [List.set_comm _ _ (Ne.symm i8)] at I5
 exact ⟨_,H1,I5,q1⟩
end
section
variable {X:Cx} {pos:Pos}
def Jd (c:TT) (tb:TS):TS:=fun D σ H=>∃ W:Nat->St->Hp->Prop,(∃ m,W m σ H) /\ ∀ m σ H,W m σ H->
 c σ H fun b H1=>if b=true then ∃ N:St->Hp->Prop,(∀ cZ H',N cZ H'->∃ m',m' < m /\ W m' cZ H') /\ tb { D with nx:=N,ct:=N,bk:=D.nx } σ H1 else D.nx σ H1
theorem B0 {c:Expr} {body:List Stmt} {tc:TT} {tb:TS} (hp:PassesOwn (model X.prog X.w) X.A X.env X.xe) (hc:PT X c tc) (hb:mE X body tb):PS X (.While c body [] pos) (Jd tc tb):=by
 intro pins s σ H D I h
 obtain ⟨W,⟨m0,w0⟩,turn⟩:=h
 refine wpAny_While (codeAny_whileLoop (fun n s'=>∃ cZ H',Inv X pins cZ H' s' /\ W n cZ H') ?_ m0 ⟨σ,H,I,w0⟩)
 rintro n s1 ⟨Ja,H1,I1,w1⟩
 refine wpAny_passesOwn hp (dZ (hc pins s1 Ja H1 _ I1 (turn n Ja H1 w1)) fun b s2 ⟨H2,I2,q2⟩=>?_)
 cases b with
 | true=>
   obtain ⟨N,hN,q2⟩:=q2
   rw [if_pos rfl]
   refine wpAny_passesOwn hp (dZ (hb pins s2 Ja H2 _ I2 q2) fun f s3 q3=>?_)
   cases f with
   | next=>
     obtain ⟨B1,H3,I3,n3⟩:=q3
     obtain ⟨m',hm,w3⟩:=hN B1 H3 n3
     exact ⟨m',hm,B1,H3,I3,w3⟩
   | cont=>
     obtain ⟨B1,H3,I3,n3⟩:=q3
     obtain ⟨m',hm,w3⟩:=hN B1 H3 n3
     exact ⟨m',hm,B1,H3,I3,w3⟩
   | brk=>exact q3
   | ret v=>exact q3
 | false=>
   rw [if_neg Bool.false_ne_true]
   exact wpAny_execs_nil ⟨Ja,H2,I2,q2⟩
end
structure It where
 go:Nat->Hp->Prop
 Mm:Nat->Hp->V->Hp->Prop
 stop:Nat->Hp->Prop
def jU (X:Cx) (pins:List (Addr×Obj)) (H:Hp) (b:Addr):Prop:=
 H b=none /\ b≠X.env.locals /\ b∉X.fs /\ (b∈X.ex \/ X.fS.heap.objs.size<=b) /\ (∀ x c,X.env.cells.lookup x=some c->c≠b) /\ ∀ p∈X.pn ++ pins,p.1≠b
theorem Inv.mG {X:Cx} {pins:List (Addr×Obj)} {σ:St} {H H':Hp} {s:Shared} {b:Addr} (I:Inv X pins σ H s) (hb:s.heap.objs.size<=b) (hn:H' b=none):jU X pins H' b:=by
 refine ⟨hn,Nat.ne_of_gt (Nat.lt_of_lt_of_le I.lt hb),I.Ma hb,.inr (Nat.le_trans I.sz hb),fun x c e z=>?_,fun p hp z=>?_⟩
 ·obtain ⟨v,q⟩:=I.cell x c e
  exact absurd (Nat.lt_of_lt_of_le q.lt (by rw [z]; exact hb)) (Nat.lt_irrefl _)
 ·exact absurd (Nat.lt_of_lt_of_le (Heap.lt_size (I.pin p hp).1) (by rw [z]; exact hb)) (Nat.lt_irrefl _)
structure Turn (P:Program) (w:World) (K:PySem.W.Frag) (tg:Expr) (J:It) (fp:List Addr) (it:Addr) (tn:Nat->Heap->Prop):Prop where
 mem:it∈fp
 obj:∀ i h,tn i h->∀ b∈fp,∃ o,h.get? b=some o /\ ∀ v,o.data≠.cell v
 keep:∀ i h h',tn i h->(∀ b∈fp,∀ o,h.get? b=some o->h'.get? b=some o)->tn i h'
 item:∀ (X:Cx),X.prog=P->X.w=w->X.K=K->X.calm=true->∀ (i:Nat) (pins:List (Addr×Obj)) (s:Shared) (σ:St) (H:Hp) (E:Value->Shared->Prop),Inv X pins σ H s->(∀ b∈fp,jU X pins H b)->tn i s.heap->J.go i H->
  wpAny (model P w) X.A (pyNext (.ref it)) (fun r s1=>∃ u,r=some u /\
   wpAny (model P w) X.A (letOwnedTupleGo tg (.ref it) u) (fun _ s2=>∃ x H',Inv X pins σ H' s2 /\ RelV x u /\ J.Mm i H x H' /\ tn (i + 1) s2.heap /\ ∀ b∈fp,H' b=none) E s1) E s
 done:∀ (X:Cx),X.prog=P->X.w=w->X.K=K->X.calm=true->∀ (i:Nat) (pins:List (Addr×Obj)) (s:Shared) (σ:St) (H:Hp) (E:Value->Shared->Prop),Inv X pins σ H s->(∀ b∈fp,jU X pins H b)->tn i s.heap->J.stop i H->
  wpAny (model P w) X.A (pyNext (.ref it)) (fun r s1=>r=none /\ Inv X pins σ H s1) E s
 self:∀ (A:Around) (i:Nat) (s:Shared) (Q:Value->Shared->Prop) (E:Value->Shared->Prop),tn i s.heap->Q (.ref it) s->wpAny (model P w) A (pyIter (.ref it)) Q E s
abbrev TI:=St->Hp->(It->Hp->Prop)->Prop
def Ot (X:Cx) (pins:List (Addr×Obj)) (σ:St) (tg:Expr) (R:It->Hp->Prop) (EV:Value) (s2:Shared):Prop:=
 ∃ (it:Addr) (fp:List Addr) (tn:Nat->Heap->Prop) (J:It) (H':Hp),EV=.ref it /\ Inv X pins σ H' s2 /\ Turn X.prog X.w X.K tg J fp it tn /\ tn 0 s2.heap /\ (∀ b∈fp,jU X pins H' b) /\ R J H'
def PI (X:Cx) (tg iter:Expr) (wi:TI):Prop:=
 ∀ (pins:List (Addr×Obj)) (s:Shared) (σ:St) (H:Hp) (R:It->Hp->Prop),Inv X pins σ H s->wi σ H R->
   wpAny (model X.prog X.w) X.A (eval iter X.env) (fun v s1=>wpAny (model X.prog X.w) X.A (pyIter v) (Ot X pins σ tg R) X.xe s1) X.xe s
theorem B2 {M:Model} {A:Around} {E:Value->Shared->Prop} {s:Shared} {tg:Expr} {it:Addr} {u:Value} {o:Obj} {n:String} {vs:Array Value} {Q:Unit->Shared->Prop} (ho:s.heap.get? it=some o) (hc:o.cls=.type n) (hd:o.data=.fields vs)
  (hn:["enumerate","zip","dict_itemiterator","dict_reverseitemiterator","odict_iterator","itertools.zip_longest","itertools.pairwise"].contains n=false) (hQ:Q () s):wpAny M A (letOwnedTupleGo tg (.ref it) u) Q E s:=by
 unfold letOwnedTupleGo
 cases tg <;> first
  | exact wpAny_pure hQ
  | (cases u <;> first
    | exact wpAny_pure hQ
    | (refine wpAny_bind (wpAny_load ho ?_)
       rw [hc,hd]
       show wpAny M A (if (["enumerate","zip","dict_itemiterator","dict_reverseitemiterator","odict_iterator","itertools.zip_longest","itertools.pairwise"].contains n && vs[0]? == some (rawInt _))=true then _ else _) Q E s
       rw [if_neg (by intro h; rw [hn,Bool.false_and] at h; cases h)]
       exact wpAny_pure hQ))
def Wz (K:PySem.W.Frag) (a:Addr):It:=
 ⟨fun i H=>∃ xs x,iC K H a xs /\ xs[i]?=some x,fun i H x H'=>H'=H /\ ∀ xs,iC K H a xs->xs[i]?=some x,fun i H=>∃ xs,iC K H a xs /\ xs.length<=i⟩
def WA (K:PySem.W.Frag) (a:Addr):It:=
 ⟨fun i H=>∃ xs x,jn K H a xs /\ xs[i]?=some x,fun i H x H'=>H'=H /\ ∀ xs,jn K H a xs->xs[i]?=some x,fun i H=>∃ xs,jn K H a xs /\ xs.length<=i⟩
def Mn (lo:Int) (n:Nat):It:=⟨fun i _=>i < n,fun i H x H'=>H'=H /\ x=.int (lo + i),fun i _=>n<=i⟩
theorem AE {P:Program} {w:World} {K:PySem.W.Frag} {tg:Expr} (a it:Addr):Turn P w K tg (Wz K a) [it] it (fun i h=>h.IsListIter it a i) where
 mem:=by simp
 obj:=fun i h st b hb=>by
  have e:b=it:=by simpa using hb
  subst e
  obtain ⟨o,e,c,d⟩:=st
  exact ⟨o,e,fun v z=>by rw [d] at z; cases z⟩
 keep:=fun i h h' st k=>st.at fun o e=>k it (by simp) o e
 item:=by
  intro X hP hw hK hc i pins s σ H E I hf st hg
  subst hP hw hK
  obtain ⟨xs,x,hq,hx⟩:=hg
  obtain ⟨its,rv,p,hz⟩:=I.list hq
  obtain ⟨u,hu,ru⟩:=rv.get hx
  obtain ⟨f0,f1,f2,f3,f4,f5⟩:=hf it (by simp)
  refine wpAny_pyNext_list_item st p.isList (x:=u) (by simpa using hu) fun h' cu sb=>?_
  have I1:Inv X pins σ H { s with heap:=h' }:=I.turned (t':=s.toks) (fun b o hb e=>(sb.2 b hb).trans e) f0 f1 f3 f4 f5
  obtain ⟨o,e,c,d⟩:=id cu
  exact ⟨u,rfl,B2 (s:={ s with heap:=h' }) e c d (by decide) ⟨x,H,I1,ru,⟨rfl,fun ys hy=>by rw [I.mF hy hq]; exact hx⟩,cu,fun b hb=>(hf b hb).1⟩⟩
 done:=by
  intro X hP hw hK hc i pins s σ H E I hf st hg
  subst hP hw hK
  obtain ⟨xs,hq,hx⟩:=hg
  obtain ⟨its,rv,p,hz⟩:=I.list hq
  obtain ⟨f0,f1,f2,f3,f4,f5⟩:=hf it (by simp)
  have hl:=rv.length
  exact wpAny_pyNext_list_end (I.ok.hd hc) st p.isList (by simp; omega) fun h' eb=>⟨rfl,I.turned (t':=s.toks) (fun b o hb e=>eb b o hb e) f0 f1 f3 f4 f5⟩
 self:=fun _ _ _ _ _ st h=>wpAny_pyIter_listiter st h
theorem xw {P:Program} {w:World} {K:PySem.W.Frag} {tg:Expr} (a it:Addr):Turn P w K tg (WA K a) [it] it (fun i h=>h.IsTupleIter it a i) where
 mem:=by simp
 obj:=fun i h st b hb=>by
  have e:b=it:=by simpa using hb
  subst e
  obtain ⟨o,e,c,d⟩:=st
  exact ⟨o,e,fun v z=>by rw [d] at z; cases z⟩
 keep:=fun i h h' st k=>st.at fun o e=>k it (by simp) o e
 item:=by
  intro X hP hw hK hc i pins s σ H E I hf st hg
  subst hP hw hK
  obtain ⟨xs,x,hq,hx⟩:=hg
  obtain ⟨its,rv,p,hz⟩:=I.tuple hq
  obtain ⟨u,hu,ru⟩:=rv.get hx
  obtain ⟨f0,f1,f2,f3,f4,f5⟩:=hf it (by simp)
  refine wpAny_pyNext_tuple_item st (show s.heap.IsTuple a its.toArray from p) (x:=u) (by simpa using hu) fun h' cu sb=>?_
  have I1:Inv X pins σ H { s with heap:=h' }:=I.turned (t':=s.toks) (fun b o hb e=>(sb.2 b hb).trans e) f0 f1 f3 f4 f5
  obtain ⟨o,e,c,d⟩:=id cu
  exact ⟨u,rfl,B2 (s:={ s with heap:=h' }) e c d (by decide) ⟨x,H,I1,ru,⟨rfl,fun ys hy=>by rw [I.nu hy hq]; exact hx⟩,cu,fun b hb=>(hf b hb).1⟩⟩
 done:=by
  intro X hP hw hK hc i pins s σ H E I hf st hg
  subst hP hw hK
  obtain ⟨xs,hq,hx⟩:=hg
  obtain ⟨its,rv,p,hz⟩:=I.tuple hq
  obtain ⟨f0,f1,f2,f3,f4,f5⟩:=hf it (by simp)
  have hl:=rv.length
  exact wpAny_pyNext_tuple_end (I.ok.hd hc) st (show s.heap.IsTuple a its.toArray from p) (by simp; omega) fun h' eb=>⟨rfl,I.turned (t':=s.toks) (fun b o hb e=>eb b o hb e) f0 f1 f3 f4 f5⟩
 self:=fun _ _ _ _ _ st h=>wpAny_pyIter_tupleiter st h
theorem xx {P:Program} {w:World} {K:PySem.W.Frag} {tg:Expr} (it:Addr) (lo:Int) (n:Nat):Turn P w K tg (Mn lo n) [it] it (fun i h=>IsRangeIter h it (lo + (i:Nat) * 1) ((n:Int) - (i:Nat)) 1) where
 mem:=by simp
 obj:=fun i h st b hb=>by
  have e:b=it:=by simpa using hb
  subst e
  exact ⟨_,st,fun v z=>by
   have z':Data.fields _=Data.cell v:=z
   cases z'⟩
 keep:=fun i h h' st k=>k it (by simp) _ st
 item:=by
  intro X hP hw hK hc i pins s σ H E I hf st hg
  subst hP hw hK
  obtain ⟨f0,f1,f2,f3,f4,f5⟩:=hf it (by simp)
  have W:=Walks.range (prog:=X.prog) (w:=X.w) (I.ok.hd hc) it lo 1 n
  refine W.item i s _ _ hg st fun v h' tk hv cu kk=>?_
  obtain ⟨t,rfl⟩:=hv
  have I1:Inv X pins σ H { s with heap:=h',toks:=tk }:=I.turned (fun b o hb e=>kk b o (by simpa using hb) e) f0 f1 f3 f4 f5
  refine ⟨_,rfl,B2 (s:={ s with heap:=h',toks:=tk }) (n:="range_iterator") cu rfl rfl (by decide) ⟨.int (lo + i),H,I1,⟨t,?_⟩,⟨rfl,rfl⟩,cu,fun b hb=>(hf b hb).1⟩⟩
  rw [Int.mul_one]
 done:=by
  intro X hP hw hK hc i pins s σ H E I hf st hg
  subst hP hw hK
  obtain ⟨f0,f1,f2,f3,f4,f5⟩:=hf it (by simp)
  exact wpAny_pyNext_range_end (I.ok.hd hc) st (by have:n<=i:=hg; omega) fun h' eb=>⟨rfl,I.turned (t':=s.toks) (fun b o hb e=>eb b o hb e) f0 f1 f3 f4 f5⟩
 self:=fun _ _ _ _ _ st h=>wpAny_pyIter_rangeiter st h
section
variable {X:Cx} {tg:Expr}
theorem uY {pins:List (Addr×Obj)} {σ:St} {H:Hp} {s:Shared} {R:It->Hp->Prop} {E:Value->Shared->Prop} {lo hi:Int} {t u v:Tok} {tk:Nat} (I:Inv X pins σ H s) (h1: -(2 ^ 62)<=lo) (h2:lo < 2 ^ 62) (h3: -(2 ^ 62)<=hi) (h4:hi < 2 ^ 62)
  (q:R (Mn lo (hi - lo).toNat) H):wpAny (model X.prog X.w) X.A (pyIter (.ref s.heap.objs.size)) (Ot X pins σ tg R) E { s with heap:=s.heap.push { cls:=.type "range",data:=.fields #[.int lo t,.int hi u,.int 1 v] },toks:=tk }:=by
 refine wpAny_pyIter_range (IsRange.new ..) (small_one h1 h2 h3 h4) ?_
 have I1:Inv X pins σ H { s with heap:=s.heap.push { cls:=.type "range",data:=.fields #[.int lo t,.int hi u,.int 1 v] },toks:=tk }:=I.kept fun b o e=>Heap.get?_push_of_some _ e
 refine ⟨(s.heap.push { cls:=.type "range",data:=.fields #[.int lo t,.int hi u,.int 1 v] }).objs.size,[(s.heap.push { cls:=.type "range",data:=.fields #[.int lo t,.int hi u,.int 1 v] }).objs.size],_,_,H,rfl,
  I1.kept (t':=tk) fun b o e=>Heap.get?_push_of_some _ e,xx _ lo (hi - lo).toNat,?_,fun b hb=>?_,q⟩
 ·have e1:lo + ((0:Nat):Int) * 1=lo:=by simp
  have e2:(((hi - lo).toNat:Nat):Int) - ((0:Nat):Int)=Builtin.Range.rangeSize lo hi 1:=by rw [rangeSize_one]; split <;> omega
  show IsRangeIter _ _ (lo + ((0:Nat):Int) * 1) ((((hi - lo).toNat:Nat):Int) - ((0:Nat):Int)) 1
  rw [e1,e2]
  exact Heap.get?_push_size _ rfl
 ·have e:b=(s.heap.push { cls:=.type "range",data:=.fields #[.int lo t,.int hi u,.int 1 v] }).objs.size:=by simpa using hb
  subst e
  exact I1.mG (Nat.le_refl _) (I1.cg.fresh (Nat.le_refl _))
def Mo (ta:TA):TI:=fun σ H R=>ta σ H fun vs H1=>∃ j:Int,vs=[.int j] /\ -(2 ^ 62)<=j /\ j < 2 ^ 62 /\ R (Mn 0 j.toNat) H1
def Mp (ta:TA):TI:=fun σ H R=>ta σ H fun vs H1=>∃ i j:Int,vs=[.int i,.int j] /\ (-(2 ^ 62)<=i /\ i < 2 ^ 62 /\ -(2 ^ 62)<=j /\ j < 2 ^ 62) /\ R (Mn i (j - i).toNat) H1
theorem AF {a:Expr} {ta:TA} {p pos:Pos} (hg:Gl X "range") (hm:X.mg "range"=none) (ha:PA X [a] ta) (hs:starEach [a] X.env=[(false,eval a X.env)]:=by rfl):PI X tg (.Call (.Name "range" p) [a] [] pos) (Mo ta):=by
 intro pins s σ H R I h
 refine Call_ (iB I hg hm boot_range (PyProof.Rows.callWith_type1 (dZ (ha pos pins s σ H _ I h) fun us s1 ⟨vs,H1,I1,r1,q1⟩=>?_) hs rfl))
 obtain ⟨j,e,q1,q2,q⟩:=q1
 subst e
 cases r1 with
 | cons r rr=>
   cases rr
   obtain ⟨t,rfl⟩:=r
   exact call_range_1 (uY I1 (by omega) (by omega) q1 q2 (by simpa using q))
theorem AG {a b:Expr} {ta:TA} {p pos:Pos} (hg:Gl X "range") (hm:X.mg "range"=none) (ha:PA X [a,b] ta) (hs:starEach [a,b] X.env=[(false,eval a X.env),(false,eval b X.env)]:=by rfl) (kA:starEach [b] X.env=[(false,eval b X.env)]:=by rfl):
  PI X tg (.Call (.Name "range" p) [a,b] [] pos) (Mp ta):=by
 intro pins s σ H R I h
 refine Call_ (iB I hg hm boot_range (PyProof.Rows.callWith_type1 (dZ (ha pos pins s σ H _ I h) fun us s1 ⟨vs,H1,I1,r1,q1⟩=>?_) (by rw [hs,kA]) (by rw [kA]; rfl)))
 obtain ⟨i,j,e,⟨q1,q2,q3,q4⟩,q⟩:=q1
 subst e
 cases r1 with
 | cons r rr=>
   cases rr with
   | cons r' rr=>
     cases rr
     obtain ⟨t,rfl⟩:=r
     obtain ⟨t',rfl⟩:=r'
     exact call_range_2 (uY I1 q1 q2 q3 q4 q)
def Pb (wi:TI) (g:TG) (tb:TS):TS:=fun D σ H=>wi σ H fun J H1=>∃ W:Nat->Nat->St->Hp->Prop,(∃ m,W 0 m σ H1) /\ ∀ i m σ H,W i m σ H->
 (J.stop i H /\ D.nx σ H) \/ (J.go i H /\ ∃ N:St->Hp->Prop,(∀ cZ H',N cZ H'->∃ m',m' < m /\ W (i + 1) m' cZ H') /\ ∀ x H',J.Mm i H x H'->g x σ H' fun X1 H2=>tb { D with nx:=N,ct:=N,bk:=D.nx } X1 H2)
def lD (fp:List Addr) (h:Heap):List (Addr×Obj):=fp.filterMap fun b=>(h.get? b).map fun o=>(b,o)
theorem fj {fp:List Addr} {h:Heap} {b:Addr} {o:Obj} (hb:b∈fp) (e:h.get? b=some o):(b,o)∈lD fp h:=List.mem_filterMap.mpr ⟨b,hb,by rw [e]; rfl⟩
theorem rO {fp:List Addr} {h:Heap} {p:Addr×Obj} (hp:p∈lD fp h):p.1∈fp /\ h.get? p.1=some p.2:=by
 obtain ⟨b,hb,e⟩:=List.mem_filterMap.mp hp
 cases q:h.get? b with
 | none=>rw [q] at e; cases e
 | some o=>
   rw [q] at e
   have e':(b,o)=p:=Option.some.inj e
   subst e'
   exact ⟨hb,q⟩
theorem Inv.pinned {pins:List (Addr×Obj)} {σ:St} {H:Hp} {s:Shared} {fp:List Addr} (I:Inv X pins σ H s) (hf:∀ b∈fp,jU X pins H b) (ho:∀ b∈fp,∃ o,s.heap.get? b=some o /\ ∀ v,o.data≠.cell v):Inv X (pins ++ lD fp s.heap) σ H s:=
 I.kz fun p hp=>(List.mem_append.mp hp).elim (fun z=>I.pin p (List.mem_append_right _ z)) fun z=>by
  obtain ⟨hb,e⟩:=rO z
  obtain ⟨f0,f1,f2,_⟩:=hf p.1 hb
  obtain ⟨o,e',d⟩:=ho p.1 hb
  rw [e] at e'; cases e'
  exact ⟨e,f0,f1,f2,d⟩
theorem Inv.j3 {pins pl:List (Addr×Obj)} {σ:St} {H:Hp} {s:Shared} (I:Inv X (pins ++ pl) σ H s):Inv X pins σ H s:=I.kz fun p hp=>I.pin p (List.mem_append_right _ (List.mem_append_left _ hp))
theorem Je {iter:Expr} {body:List Stmt} {wi:TI} {g:TG} {tb:TS} {pos:Pos} (hp:PassesOwn (model X.prog X.w) X.A X.env X.xe) (hc:X.calm=true) (hi:PI X tg iter wi) (hg:PG X tg g) (hb:mE X body tb)
  (hs:∀ x,foldedSetIterable iter X.env x=pure x:=by intro _; rfl):PS X (.For tg iter body [] pos) (Pb wi g tb):=by
 intro pins s σ H D I h
 refine wpAny_For (dZ (hi pins s σ H _ I h) fun v s1 h1=>dZ h1 fun EV s2 h2=>?_) hs
 obtain ⟨it,fp,tn,J,H2,e,I2,T,cM,f2,W,⟨m0,w0⟩,turn⟩:=h2
 subst e
 have xy:∀ {H':Hp},(∀ b∈fp,H' b=none)->∀ b∈fp,jU X pins H' b:=fun hn b hb=>⟨hn b hb,(f2 b hb).2⟩
 refine codeAny_forLoop_any (fun n s'=>∃ i cZ H',Inv X pins cZ H' s' /\ tn i s'.heap /\ (∀ b∈fp,H' b=none) /\ W i n cZ H') ?_ m0 ⟨0,σ,H2,I2,cM,fun b hb=>(f2 b hb).1,w0⟩
 rintro n s3 ⟨i,B1,H3,I3,B3,WB,w3⟩
 rcases turn i n B1 H3 w3 with ⟨stop,qn⟩ | ⟨go,N,hN,step⟩
 ·refine wpAny_passesOwn hp (dZ (T.done X rfl rfl rfl hc i pins s3 B1 H3 X.xe I3 (xy WB) B3 stop) fun r s4 ⟨hr,I4⟩=>?_)
  subst hr
  exact wpAny_execs_nil ⟨B1,H3,I4,qn⟩
 ·refine wpAny_passesOwn hp (dZ (T.item X rfl rfl rfl hc i pins s3 B1 H3 X.xe I3 (xy WB) B3 go) fun r s4 ⟨u,hr,h4⟩=>?_)
  subst hr
  refine wpAny_passesOwn hp (dZ h4 fun _ s5 ⟨x,H5,I5,r5,y5,Fk,Pc⟩=>?_)
  have Pd:=I5.pinned (xy Pc) (T.obj _ _ Fk)
  refine wpAny_passesOwn hp (dZ (hg _ s5 B1 H5 x u _ Pd r5 (step x H5 y5)) fun _ s6 ⟨X2,H6,I6,q6⟩=>?_)
  refine wpAny_passesOwn hp (dZ (hb _ s6 X2 H6 _ I6 q6) fun f s7 q7=>?_)
  have again:∀ {B4:St} {H7:Hp},Inv X (pins ++ lD fp s5.heap) B4 H7 s7->N B4 H7->∃ m,m < n /\ ∃ i cZ H',Inv X pins cZ H' s7 /\ tn i s7.heap /\ (∀ b∈fp,H' b=none) /\ W i m cZ H':=fun {B4 H7} I7 n7=>by
   obtain ⟨m',hm,w7⟩:=hN B4 H7 n7
   refine ⟨m',hm,i + 1,B4,H7,I7.j3,T.keep _ _ _ Fk fun b hb o e=>(I7.pin (b,o) (List.mem_append_right _ (List.mem_append_right _ (fj hb e)))).1,fun b hb=>?_,w7⟩
   obtain ⟨o,e,d⟩:=T.obj _ _ Fk b hb
   exact (I7.pin (b,o) (List.mem_append_right _ (List.mem_append_right _ (fj hb e)))).2.1
  cases f with
  | next=>obtain ⟨B4,H7,I7,n7⟩:=q7; exact again I7 n7
  | cont=>obtain ⟨B4,H7,I7,n7⟩:=q7; exact again I7 n7
  | brk=>obtain ⟨B4,H7,I7,q7⟩:=q7; exact ⟨B4,H7,I7.j3,q7⟩
  | ret v=>obtain ⟨x7,B4,H7,I7,r7,q7⟩:=q7; exact ⟨x7,B4,H7,I7.j3,r7,q7⟩
end
abbrev R2:=V->V->Hp->VK->Prop
def iV (X:Cx) (f:Value->Value->Sem Value) (r:R2):Prop:=
 ∀ (pins:List (Addr×Obj)) (s:Shared) (σ:St) (H:Hp) (x y:V) (v u:Value) (Q:VK),Inv X pins σ H s->RelV x v->RelV y u->r x y H Q->
   wpAny (model X.prog X.w) X.A (f v u) (EP X pins σ Q) X.xe s
def Pe (X:Cx) (f:Value->Sem Value) (r:V->Hp->VK->Prop):Prop:=
 ∀ (pins:List (Addr×Obj)) (s:Shared) (σ:St) (H:Hp) (x:V) (v:Value) (Q:VK),Inv X pins σ H s->RelV x v->r x H Q->
   wpAny (model X.prog X.w) X.A (f v) (EP X pins σ Q) X.xe s
def eX (X:Cx) (f:Value) (r:List V->Hp->VK->Prop):Prop:=
 ∀ (pins:List (Addr×Obj)) (s:Shared) (σ:St) (H:Hp) (xs:List V) (us:List Value) (Q:VK),Inv X pins σ H s->bw xs us->r xs H Q->
   wpAny (model X.prog X.w) X.A (call f us) (EP X pins σ Q) X.xe s
def Pf (X:Cx) (r:V->Hp->(Bool->Hp->Prop)->Prop):Prop:=
 ∀ (pins:List (Addr×Obj)) (s:Shared) (σ:St) (H:Hp) (x:V) (v:Value) (Q:Bool->Hp->Prop),Inv X pins σ H s->RelV x v->r x H Q->
   wpAny (model X.prog X.w) X.A (truthy v) (TP X pins σ Q) X.xe s
def LD (r:R2) (ta tb:TE):TE:=fun σ H Q=>ta σ H fun x H1=>tb σ H1 fun y H2=>r x y H2 Q
def X3 (r:V->Hp->VK->Prop) (ta:TE):TE:=fun σ H Q=>ta σ H fun x H1=>r x H1 Q
def rI (C:Int->Int->Prop) (g:Int->Int->V):R2:=fun x y H Q=>∃ i j,x=.int i /\ y=.int j /\ C i j /\ Q (g i j) H
def B5 (g:Int->Int->V):R2:=fun x y H Q=>∃ i j,x=.int i /\ y=.int j /\ Q (g i j) H
def rU (g:Int->V):V->Hp->VK->Prop:=fun x H Q=>∃ i,x=.int i /\ Q (g i) H
section
variable {X:Cx} {a b c:Expr} {ta tb tc:TE} {pos:Pos}
theorem Jf (ha:PE X a ta) (hb:PE X b tb) {pins:List (Addr×Obj)} {s:Shared} {σ:St} {H:Hp} {R:V->V->Hp->Prop} (I:Inv X pins σ H s)
  (h:ta σ H fun x H1=>tb σ H1 fun y H2=>R x y H2) {Q:Value->Shared->Prop} {f:Value->Value->Sem Value}
  (hf:∀ v u s2 x y H2,Inv X pins σ H2 s2->RelV x v->RelV y u->R x y H2->wpAny (model X.prog X.w) X.A (f v u) Q X.xe s2):
  wpAny (model X.prog X.w) X.A (eval a X.env) (fun v bA=>wpAny (model X.prog X.w) X.A (eval b X.env) (fun u lE=>wpAny (model X.prog X.w) X.A (f v u) Q X.xe lE) X.xe bA) X.xe s:=by
 refine dZ (ha pins s σ H _ I h) fun v s1 ⟨x,H1,I1,r1,q1⟩=>?_
 refine dZ (hb pins s1 σ H1 _ I1 q1) fun u s2 ⟨y,H2,I2,r2,q2⟩=>?_
 exact hf v u s2 x y H2 I2 r1 r2 q2
theorem HM {op:Operator} {r:R2} (ho:iV X (binaryOp op) r) (ha:PE X a ta) (hb:PE X b tb):PE X (.BinOp a op b pos) (LD r ta tb):=by
 intro pins s σ H Q I h
 exact wpAny_BinOp (Jf ha hb I h fun v u s2 x y H2 I2 rx ry q=>ho pins s2 σ H2 x y v u Q I2 rx ry q)
theorem Mq {op:UnaryOp} {r:V->Hp->VK->Prop} (ho:Pe X (unaryOp op) r) (ha:PE X a ta):PE X (.UnaryOp op a pos) (X3 r ta):=by
 intro pins s σ H Q I h
 exact UnaryOp_ (dZ (ha pins s σ H _ I h) fun v s1 ⟨x,H1,I1,r1,q1⟩=>ho pins s1 σ H1 x v Q I1 r1 q1)
theorem Mr {f:Value->Value->Sem Value} {C:Int->Int->Prop} {g:Int->Int->Int}
  (rule:∀ (i j:Int) (t u:Tok) (s:Shared) (Q:Value->Shared->Prop) (E:Value->Shared->Prop),C i j->Q (.int (g i j) s.toks) { s with toks:=s.toks + 1 }->wpAny (model X.prog X.w) X.A (f (.int i t) (.int j u)) Q E s):
  iV X f (rI C fun i j=>.int (g i j)):=by
 intro pins s σ H x y v u Q I rx ry h
 obtain ⟨i,j,rfl,rfl,hc,q⟩:=h
 obtain ⟨t,rfl⟩:=rx
 obtain ⟨t',rfl⟩:=ry
 exact rule i j t t' s _ _ hc ⟨.int (g i j),H,I.tok _,⟨_,rfl⟩,q⟩
theorem Ms {f:Value->Value->Sem Value} {g:Int->Int->Int}
  (rule:∀ (i j:Int) (t u:Tok) (s:Shared) (Q:Value->Shared->Prop) (E:Value->Shared->Prop),Q (.int (g i j) s.toks) { s with toks:=s.toks + 1 }->wpAny (model X.prog X.w) X.A (f (.int i t) (.int j u)) Q E s):
  iV X f (B5 fun i j=>.int (g i j)):=by
 intro pins s σ H x y v u Q I rx ry h
 obtain ⟨i,j,rfl,rfl,q⟩:=h
 obtain ⟨t,rfl⟩:=rx
 obtain ⟨t',rfl⟩:=ry
 exact rule i j t t' s _ _ ⟨.int (g i j),H,I.tok _,⟨_,rfl⟩,q⟩
theorem Fl {f:Value->Value->Sem Value} {g:Int->Int->Bool}
  (rule:∀ (i j:Int) (t u:Tok) (s:Shared) (Q:Value->Shared->Prop) (E:Value->Shared->Prop),Q (.bool (g i j)) s->wpAny (model X.prog X.w) X.A (f (.int i t) (.int j u)) Q E s):
  iV X f (B5 fun i j=>.bl (g i j)):=by
 intro pins s σ H x y v u Q I rx ry h
 obtain ⟨i,j,rfl,rfl,q⟩:=h
 obtain ⟨t,rfl⟩:=rx
 obtain ⟨t',rfl⟩:=ry
 exact rule i j t t' s _ _ ⟨.bl (g i j),H,I,rfl,q⟩
def Jg (i j:Int):Prop:=0<=j /\ j<=1000000 /\ i.natAbs < 2 ^ 64
theorem xA (k:Nat):(0:Int)<=2 ^ k:=by
 rw [two_pow_cast]
 exact Int.natCast_nonneg _
theorem Jh:iV X (binaryOp .Add) (B5 fun i j=>.int (i + j)):=Ms fun _ _ _ _ _ _ _ q=>add_int q
theorem c7:iV X (binaryOp .Sub) (B5 fun i j=>.int (i - j)):=Ms fun _ _ _ _ _ _ _ q=>sub_int q
theorem cH:iV X (binaryOp .Mod) (rI (fun _ j=>j≠0) fun i j=>.int (i.fmod j)):=Mr fun _ _ _ _ _ _ _ hc q=>mod_int' hc q
theorem xB:iV X (binaryOp .Pow) (rI Jg fun i j=>.int (i ^ j.toNat)):=Mr fun _ _ _ _ _ _ _ hc q=>pow_int_small hc.1 hc.2.1 hc.2.2 q
theorem xC:iV X (binaryOp .RShift) (rI (fun _ j=>0<=j) fun i j=>.int (i / 2 ^ j.toNat)):=Mr fun i j _ _ _ _ _ hc q=>
 rshift_int hc (by rw [Int.fdiv_eq_ediv_of_nonneg i (xA _)]; exact q)
theorem X4 {f:Value->Sem Value} {g:Int->Int}
  (rule:∀ (i:Int) (t:Tok) (s:Shared) (Q:Value->Shared->Prop) (E:Value->Shared->Prop),Q (.int (g i) s.toks) { s with toks:=s.toks + 1 }->wpAny (model X.prog X.w) X.A (f (.int i t)) Q E s):
  Pe X f (rU fun i=>.int (g i)):=by
 intro pins s σ H x v Q I rx h
 obtain ⟨i,rfl,q⟩:=h
 obtain ⟨t,rfl⟩:=rx
 exact rule i t s _ _ ⟨.int (g i),H,I.tok _,⟨_,rfl⟩,q⟩
theorem Ji:Pe X (unaryOp .USub) (rU fun i=>.int (-i)):=X4 fun _ _ _ _ _ q=>neg_int q
end
section
variable {X:Cx} {a b c:Expr} {ta tb tc:TE} {pos:Pos}
theorem oo:iV X (compareOp .Lt) (B5 fun i j=>.bl (decide (i < j))):=Fl fun _ _ _ _ _ _ _ q=>lt_int q
theorem B6:iV X (compareOp .LtE) (B5 fun i j=>.bl (decide (i<=j))):=Fl fun _ _ _ _ _ _ _ q=>le_int q
theorem oq:iV X (compareOp .Gt) (B5 fun i j=>.bl (decide (j < i))):=Fl fun _ _ _ _ _ _ _ q=>gt_int q
theorem Mt:iV X (compareOp .GtE) (B5 fun i j=>.bl (decide (j<=i))):=Fl fun _ _ _ _ _ _ _ q=>ge_int q
theorem iV.or {f:Value->Value->Sem Value} {r r':R2} (h:iV X f r) (h':iV X f r'):iV X f (fun x y H Q=>r x y H Q \/ r' x y H Q):=by
 intro pins s σ H x y v u Q I rx ry q
 rcases q with q | q
 ·exact h pins s σ H x y v u Q I rx ry q
 ·exact h' pins s σ H x y v u Q I rx ry q
theorem b0 (b:Expr) {op:CmpOp} (h:op≠.In:=by decide) (h2:op≠.NotIn:=by decide):behindInMarks op b=false:=by
 have e1:(op == CmpOp.In)=false:=by cases op <;> first | rfl | exact absurd rfl h
 have e2:(op == CmpOp.NotIn)=false:=by cases op <;> first | rfl | exact absurd rfl h2
 cases b <;> simp [behindInMarks,e1,e2]
theorem Fm {op:CmpOp} {r:R2} (ho:iV X (compareOp op) r) (ha:PE X a ta) (hb:PE X b tb) (hm:behindInMarks op b=false):PE X (.Compare a [op] [b] pos) (LD r ta tb):=by
 intro pins s σ H Q I h
 exact wpAny_Compare1 (Jf ha hb I h fun v u s2 x y H2 I2 rx ry q=>ho pins s2 σ H2 x y v u Q I2 rx ry q) hm
def Mu (t:TE):TT:=fun σ H Q=>t σ H fun x H'=>∃ k,x=.bl k /\ Q k H'
theorem Fn {op:CmpOp} {r:R2} (ho:iV X (compareOp op) r) (ha:PE X a ta) (hb:PE X b tb) (hm:behindInMarks op b=false):PT X (.Compare a [op] [b] pos) (Mu (LD r ta tb)):=by
 intro pins s σ H Q I h
 refine wpAny_isTrue_Compare1 (dZ (ha pins s σ H _ I h) fun v s1 ⟨x,H1,I1,r1,q1⟩=>dZ (hb pins s1 σ H1 _ I1 q1) fun u s2 ⟨y,H2,I2,r2,q2⟩=>
  dZ (ho pins s2 σ H2 x y v u _ I2 r1 r2 q2) fun c s3 ⟨z,H3,I3,r3,k,e,q3⟩=>?_) hm
 subst e
 cases r3
 exact wpAny_truthy_bool ⟨H3,I3,q3⟩
def B7 (r r':R2) (ta tb tc:TE):TE:=fun σ H Q=>ta σ H fun x H1=>tb σ H1 fun y H2=>r x y H2 fun z H3=>∃ k,z=.bl k /\
 (if k=true then tc σ H3 fun w' H4=>r' y w' H4 Q else Q (.bl false) H3)
theorem B8 {op Jj:CmpOp} {r r':R2} (ho:iV X (compareOp op) r) (BV:iV X (compareOp Jj) r') (ha:PE X a ta) (hb:PE X b tb) (hc:PE X c tc)
  (hm:lastMarks [op,Jj] [b,c]=false:=by with_unfolding_all rfl):PE X (.Compare a [op,Jj] [b,c] pos) (B7 r r' ta tb tc):=by
 intro pins s σ H Q I h
 refine Compare_chain (dZ (ha pins s σ H _ I h) fun v s1 ⟨x,H1,I1,r1,q1⟩=>chain_link (dZ (hb pins s1 σ H1 _ I1 q1) fun u s2 ⟨y,H2,I2,r2,q2⟩=>
  dZ (ho pins s2 σ H2 x y v u _ I2 r1 r2 q2) fun d s3 ⟨z,H3,I3,r3,k,e,q3⟩=>?_)) hm
 subst e
 cases r3
 refine wpAny_truthy_bool ?_
 cases k with
 | false=>exact ite_ff ⟨.bl false,H3,I3,rfl,q3⟩
 | true=>exact ite_tt (chain_last (dZ (hc pins s3 σ H3 _ I3 q3) fun w' s4 ⟨z',H4,I4,r4,q4⟩=>BV pins s4 σ H4 y z' u w' Q I4 r2 r4 q4))
def Mv (K:PySem.W.Frag) (x:V) (H:Hp) (k:Bool):Prop:=
 match x with
 | .h8=>k=false
 | .bl b=>k=b
 | .int i=>k=(i != 0)
 | .str y=>y.length<=sizeLine /\ k=((y.length:Int) != 0)
 | .L3 y=>y.size<=sizeLine /\ k=((y.size:Int) != 0)
 | .ref p=>(∃ xs,iC K H p xs /\ k= !xs.isEmpty) \/ (∃ xs,jn K H p xs /\ k= !xs.isEmpty) \/ ∃ aQ,H p=some (.dK aQ) /\ k= !aQ.isEmpty
 | _=>False
theorem xD {κ:Type} {aQ:List (κ×V)} {vs:List (κ×Value)} (r:KV aQ vs):(!vs.isEmpty)= !aQ.isEmpty:=by
 cases r <;> rfl
theorem pA {xs:List V} {its:List Value} (r:bw xs its):(!its.toArray.isEmpty)= !xs.isEmpty:=by
 cases r <;> simp
theorem nv:(sizeLine:Nat) < 2 ^ 63:=by rw [sizeLine_eq]; decide
theorem Jk:Pf X (fun x H Q=>∃ k,Mv X.K x H k /\ Q k H):=by
 intro pins s σ H x v Q I rx h
 obtain ⟨k,e,q⟩:=h
 have hl:=nv
 have hs:sizeLine=16777216:=sizeLine_eq
 cases x with
 | h8=>
   cases rx
   have e':k=false:=e
   subst e'
   exact truthy_none ⟨H,I,q⟩
 | bl b=>
   cases rx
   have e':k=b:=e
   subst e'
   exact wpAny_truthy_bool ⟨H,I,q⟩
 | int i=>
   obtain ⟨t,rfl⟩:=rx
   have e':k=(i != 0):=e
   subst e'
   exact PySem.P.truthy_int ⟨H,I,q⟩
 | str y=>
   obtain ⟨t,rfl⟩:=rx
   obtain ⟨hy,e'⟩:y.length<=sizeLine /\ k=((y.length:Int) != 0):=e
   subst e'
   exact PySem.P.truthy_str (by omega) ⟨H,I.tok _,q⟩
 | L3 y=>
   obtain ⟨t,rfl⟩:=rx
   obtain ⟨hy,e'⟩:y.size<=sizeLine /\ k=((y.size:Int) != 0):=e
   subst e'
   exact PySem.W.truthy_bytes (by omega) ⟨H,I.tok _,q⟩
 | ref p=>
   cases rx
   have e':(∃ xs,iC X.K H p xs /\ k= !xs.isEmpty) \/ (∃ xs,jn X.K H p xs /\ k= !xs.isEmpty) \/ ∃ aQ,H p=some (.dK aQ) /\ k= !aQ.isEmpty:=e
   rcases e' with ⟨xs,hx,e'⟩ | ⟨xs,hx,e'⟩ | ⟨aQ,hx,e'⟩
   ·subst e'
    obtain ⟨its,r,pl,hz⟩:=I.list hx
    have hlen:=r.length
    exact wpAny_truthy_list pl.isList (by simp only [List.size_toArray]; omega) ⟨H,I.tok _,by rw [pA r]; exact q⟩
   ·subst e'
    obtain ⟨its,r,pl,hz⟩:=I.tuple hx
    have hlen:=r.length
    exact truthy_tuple pl (by simp only [List.size_toArray]; omega) ⟨H,I.tok _,by rw [pA r]; exact q⟩
   ·subst e'
    obtain ⟨hz,hS,vs,r,m⟩:aQ.length<=sizeLine /\ (p == sysModules)=false /\ ∃ vs,KV aQ vs /\ s.heap.DictOf (cY X.prog X.w) p vs:=I.cg p _ hx
    have hlen:aQ.length=vs.length:=Paired.length r
    exact wpAny_truthy_dict hS m (by omega) ⟨H,I.tok _,by rw [xD r]; exact q⟩
 | _=>exact (show False from e).elim
theorem B9 (ha:PE X a ta) (he:∀ whole,isTrue a X.env whole=(do let v <- whole; standAt a.pos; holding [v] (truthy v))):
  PT X a (fun σ H Q=>ta σ H fun x H'=>∃ k,Mv X.K x H' k /\ Q k H'):=by
 intro pins s σ H Q I h
 exact isTrue_plain (dZ (ha pins s σ H _ I h) fun v s1 ⟨x,H1,I1,r1,q1⟩=>Jk pins s1 σ H1 x v Q I1 r1 q1) (he _)
theorem xE:iV X (binaryOp .Add) (fun x y H Q=>∃ i j,x=.str i /\ y=.str j /\ i.length + j.length<=sizeLine /\ Q (.str (i ++ j)) H):=by
 intro pins s σ H x y v u Q I rx ry h
 obtain ⟨i,j,rfl,rfl,hz,q⟩:=h
 obtain ⟨t,rfl⟩:=rx
 obtain ⟨t',rfl⟩:=ry
 exact add_str (fun t' tk=>⟨.str (i ++ j),H,I.tok _,⟨_,rfl⟩,q⟩) hz
theorem vals1 {x:V} {us:List Value} (r:bw [x] us):∃ u,us=[u] /\ RelV x u:=by
 cases r with
 | cons r1 r2=>cases r2; exact ⟨_,rfl,r1⟩
theorem vals2 {x y:V} {us:List Value} (r:bw [x,y] us):∃ u w',us=[u,w'] /\ RelV x u /\ RelV y w':=by
 cases r with
 | cons r1 r2=>
   cases r2 with
   | cons r3 r4=>cases r4; exact ⟨_,_,rfl,r1,r3⟩
theorem i9:eX X (.builtin "abs") (fun xs H Q=>∃ i,xs=[.int i] /\ Q (.int (if i < 0 then -i else i)) H):=by
 intro pins s σ H xs us Q I r h
 obtain ⟨i,rfl,q⟩:=h
 obtain ⟨u,rfl,t,rfl⟩:=vals1 r
 exact call_abs_int fun u tk=>⟨.int (if i < 0 then -i else i),H,I.tok _,⟨_,rfl⟩,q⟩
theorem rP (hc:X.calm=true):eX X (.builtin "max") (fun xs H Q=>∃ i j,xs=[.int i,.int j] /\ Q (.int (if j > i then j else i)) H):=by
 intro pins s σ H xs us Q I r h
 obtain ⟨i,j,rfl,q⟩:=h
 obtain ⟨u,w',rfl,⟨t,rfl⟩,⟨t',rfl⟩⟩:=vals2 r
 refine max_two_ints (I.ok.hd hc) fun h' tk k=>⟨_,H,I.kept k,?_,q⟩
 by_cases hj:j > i
 ·rw [if_pos hj,if_pos hj]; exact ⟨_,rfl⟩
 ·rw [if_neg hj,if_neg hj]; exact ⟨_,rfl⟩
theorem AH (hc:X.calm=true):eX X (.builtin "min") (fun xs H Q=>∃ i j,xs=[.int i,.int j] /\ Q (.int (if j < i then j else i)) H):=by
 intro pins s σ H xs us Q I r h
 obtain ⟨i,j,rfl,q⟩:=h
 obtain ⟨u,w',rfl,⟨t,rfl⟩,⟨t',rfl⟩⟩:=vals2 r
 refine min_two_ints (I.ok.hd hc) fun h' tk k=>⟨_,H,I.kept k,?_,q⟩
 by_cases hj:j < i
 ·rw [if_pos hj,if_pos hj]; exact ⟨_,rfl⟩
 ·rw [if_neg hj,if_neg hj]; exact ⟨_,rfl⟩
theorem AI:eX X (.type "int") (fun xs H Q=>(∃ i,xs=[.int i] /\ Q (.int i) H) \/ ∃ k,xs=[.bl k] /\ Q (.int (if k then 1 else 0)) H):=by
 intro pins s σ H xs us Q I r h
 rcases h with ⟨i,rfl,q⟩ | ⟨k,rfl,q⟩
 ·obtain ⟨u,rfl,t,rfl⟩:=vals1 r
  exact call_int_int ⟨.int i,H,I,⟨_,rfl⟩,q⟩
 ·obtain ⟨u,rfl,r1⟩:=vals1 r
  cases r1
  exact call_int_bool ⟨.int (if k then 1 else 0),H,I.tok _,⟨_,rfl⟩,q⟩
end
structure Jl (h:Heap) (x dx C:Addr) (mA:Str->Option Value):Prop where
 obj:h.get? x=some (PySem.W.instObj C dx)
 ns:h.Ns1 dx mA
 ne:dx≠x
set_option tactic.hygienic true in
theorem AJ {h:Heap} {dx:Addr} {mA:Str->Option Value} (n:h.Ns1 dx mA):∃ od,h.get? dx=some od /\ ∀ name,PySem.W.lookIn name od=some (mA name):=by
 obtain ⟨o,es,ep,ho,hd,hk,_,hm⟩:=n
 refine ⟨o,ho,fun name=>?_⟩
 have e:=hm name
 unfold nsFind findBy at e
 rw [<- Array.find?_toList] at e
 unfold PySem.W.lookIn
 rw [hd]
 dsimp only
 split
 ·rename_i y q
  rw [q] at e
  exact congrArg some e
 ·rename_i q
  rw [q] at e
  have a:es.toList.any (·.refKey)=false:=by
   rw [List.any_eq_false]
   intro y hy
   obtain ⟨z,t,Pg⟩:=hk y (Array.mem_toList_iff.mp hy)
   simp [DictEntry.refKey,Pg]
  have a':¬ es.toList.any (·.refKey)=true:=by rw [a]; exact Bool.false_ne_true
  rw [if_neg a']
  exact congrArg some e
theorem Jl.look {h:Heap} {x dx C:Addr} {mA:Str->Option Value} (I:Jl h x dx C mA):∃ od,PySem.W.InstAt h x (PySem.W.instObj C dx) C (some od) /\ ∀ name,PySem.W.lookIn name od=some (mA name):=
 let ⟨od,ho,hl⟩:=AJ I.ns
 ⟨od,⟨I.obj,rfl,rfl,ho⟩,hl⟩
section
variable {prog:Program} {w:World} {A:Around} {E:Value->Shared->Prop} {s:Shared} {K:PySem.W.Frag} {x dx C f:Addr} {mA:Str->Option Value} {name:Str} {v:Value}
end
theorem nr.some_of {v:V} {o:Option Value} (r:nr (some v) o):∃ u,o=some u /\ RelV v u:=by
 cases o with
 | none=>exact (show False from r).elim
 | some u=>exact ⟨u,rfl,r⟩
section
variable {P:Program} {w:World} {H H':Hp} {h h':Heap} {a C dx:Addr} {fs XX:List (Str×V)}
theorem Fo (cg:lh P w H h) (e:H a=some (.ins C dx fs)):∃ mA,Jl h a dx C mA /\ (∀ f,nr (fs.lookup f) (mA f)) /\ PySem.Within mA (fs.map (·.1)) /\ fs.length<=1000 /\ H dx=some (.own a):=by
 obtain ⟨d,z,ne,ob,mA,n,r,q⟩:=(show cy P w H h a (.ins C dx fs) from cg a _ e)
 exact ⟨mA,⟨ob,n,ne⟩,r,q,z,d⟩
end
structure Ph (K:PySem.W.Frag) (C:Addr):Prop where
 pg:PySem.W.plainGet K C Str.empty=true
 hd:PySem.W.hasDictIn K C=true
 po:PySem.W.plainOver K C=true
 sa:PySem.W.findIn K (.ref C) "__setattr__"=some (some (.builtin "object.__setattr__"))
theorem Ph.get {K:PySem.W.Frag} {C:Addr} (c:Ph K C) (f:Str):PySem.W.plainGet K C f=true:=c.pg
section
variable {X:Cx} {pins:List (Addr×Obj)} {σ:St} {H:Hp} {s:Shared} {a C dx:Addr} {fs:List (Str×V)} {f:Str} {v:V} {A:Around} {E:Value->Shared->Prop}
end
section
variable {X:Cx} {o e value:Expr} {f:Str} {pos pos' iW:Pos} {ta tv:TE}
end
section
variable {X:Cx} {pins:List (Addr×Obj)} {σ:St} {H:Hp} {s:Shared} {A:Around} {E:Value->Shared->Prop} {Q:Value->Shared->Prop} {c:Value} {b:Bool}
inductive ny (K:PySem.W.Frag) (H:Hp):V->Value->Prop where
 | h8:ny K H .h8 (.type "NoneType")
 | bl (x:Bool):ny K H (.bl x) (.type "bool")
 | int (i:Int):ny K H (.int i) (.type "int")
 | str (x:Str):ny K H (.str x) (.type "str")
 | LB (x:UInt64):ny K H (.LB x) (.type "float")
 | lst {a:Addr} {xs:List V} (e:H a=some (.lst xs)):ny K H (.ref a) (.type "list")
 | qP {a:Addr} {o:Obj} {xs:List V} (e:H a=some (.qP o (.lst xs))):ny K H (.ref a) (.type "list")
 | tup {a:Addr} {xs:List V} (e:H a=some (.tup xs)):ny K H (.ref a) (.type "tuple")
 | dK {a:Addr} {aQ:List (Key×V)} (e:H a=some (.dK aQ)):ny K H (.ref a) (.type "dict")
 | dT {a:Addr} {aQ:List (List Key×V)} (e:H a=some (.dT aQ)):ny K H (.ref a) (.type "dict")
 | ins {a C dx:Addr} {fs:List (Str×V)} (e:H a=some (.ins C dx fs)) (cl:Ph K C) (ha:PySem.W.findIn K (.ref C) "__class__"=some (some (.builtin "object.__class__")))
   (hn:PySem.W.specialIn K (.builtin "object.__class__") "__get__"=some (some (.builtin "getset_descriptor.__get__"))) (WC:PySem.W.takesIn K (.builtin "object.__class__")=some true)
   (hm:PySem.W.mroIn K C (.type "object")=some true):ny K H (.ref a) (.ref C)
theorem AK {x:V} {u t:Value} (I:Inv X pins σ H s) (rx:RelV x u) (ty:ny X.K H x t) (e:PySem.W.kitOne X.K t c=some b) (h:∀ tk,Q (.bool b) { s with toks:=tk }):
  wpAny (model X.prog X.w) A (call (.builtin "isinstance") [u,c]) Q E s:=by
 cases ty with
 | h8=>cases (show u=Value.none from rx); exact PySem.W.kia_one PySem.W.kitx_none I.qM True.intro e (fun z=>nomatch z) h
 | bl y=>cases (show u=Value.bool y from rx); exact PySem.W.kia_one PySem.W.kitx_bool I.qM True.intro e (fun z=>nomatch z) h
 | int i=>obtain ⟨t,q⟩:=(show ∃ t,u=Value.int i t from rx); cases q; exact PySem.W.kia_one PySem.W.kitx_int I.qM True.intro e (fun z=>nomatch z) h
 | str y=>obtain ⟨t,q⟩:=(show ∃ t,u=Value.str y t from rx); cases q; exact PySem.W.kia_one PySem.W.kitx_str I.qM True.intro e (fun z=>nomatch z) h
 | LB y=>obtain ⟨t,q⟩:=(show ∃ t,u=Value.float y t from rx); cases q; exact PySem.W.kia_one PySem.W.kitx_float I.qM True.intro e (fun z=>nomatch z) h
 | @lst a xs ea=>
   cases (show u=Value.ref a from rx)
   obtain ⟨_,_,n,_,h1⟩:=(show cy X.prog X.w H s.heap a (.lst xs) from I.cg a _ ea)
   exact PySem.W.kia_one PySem.W.kitx_list I.qM ⟨_,h1,rfl⟩ e (fun z=>nomatch z) h
 | @qP a ob xs ea=>
   cases (show u=Value.ref a from rx)
   obtain ⟨_,_,_,n,_,h1⟩:=(show cy X.prog X.w H s.heap a (.qP ob (.lst xs)) from I.cg a _ ea)
   exact PySem.W.kia_one PySem.W.kitx_list I.qM ⟨_,h1,rfl⟩ e (fun z=>nomatch z) h
 | @tup a xs ea=>
   cases (show u=Value.ref a from rx)
   obtain ⟨_,_,_,p⟩:=(show cy X.prog X.w H s.heap a (.tup xs) from I.cg a _ ea)
   obtain ⟨o,h1,h2,_⟩:=p
   exact PySem.W.kia_one PySem.W.kitx_tuple I.qM ⟨o,h1,h2⟩ e (fun z=>nomatch z) h
 | @dK a aQ ea=>
   cases (show u=Value.ref a from rx)
   obtain ⟨_,_,vs,_,p⟩:=(show cy X.prog X.w H s.heap a (.dK aQ) from I.cg a _ ea)
   obtain ⟨o,es,ep,h1,h2,_⟩:=p
   exact PySem.W.kia_one PySem.W.kitx_dict I.qM ⟨o,h1,h2.1⟩ e (fun z=>nomatch z) h
 | @dT a aQ ea=>
   cases (show u=Value.ref a from rx)
   obtain ⟨_,_,xs,_,o,es,ep,h1,h2,_⟩:=(show cy X.prog X.w H s.heap a (.dT aQ) from I.cg a _ ea)
   exact PySem.W.kia_one PySem.W.kitx_dict I.qM ⟨o,h1,h2.1⟩ e (fun z=>nomatch z) h
 | @ins a C dx fs ea cl ha hn WC hm=>
   cases (show u=Value.ref a from rx)
   obtain ⟨mA,O,_⟩:=Fo I.cg ea
   obtain ⟨od,J,_⟩:=O.look
   exact PySem.W.kia_one (PySem.W.kitx_own (cl.get _) cl.hd ha hn WC hm) I.qM J e (fun z=>nomatch z) h
end
structure c8 (k:Nat) (A:Around):Prop where
 hd:A.handled=none
 dp:A.depth + 3 * k + 5 < recursionLimit
 un:A.units + 16 * k + 200 < cLine
theorem c8.mono {j k:Nat} {A:Around} (r:c8 k A) (h:j<=k):c8 j A:=⟨r.hd,by have:=r.dp; omega,by have:=r.un; omega⟩
theorem c8.deeper {k:Nat} {A:Around} (r:c8 (k + 1) A) (env:Env):c8 k (A.deeper env):=
 ⟨r.hd,by have:=r.dp; show A.depth + 1 + 3 * k + 5 < _; omega,by have:=r.un; show A.units + 3 + 16 * k + 200 < _; omega⟩
theorem c8.in1 {k:Nat} {A:Around} (r:c8 (k + 1) A):c8 k A.in1:=
 ⟨r.hd,by have:=r.dp; show A.depth + 3 * k + 5 < _; omega,by have:=r.un; show A.units + 1 + 16 * k + 200 < _; omega⟩
theorem c8.depth {k:Nat} {A:Around} (r:c8 k A):A.depth < recursionLimit:=by have:=r.dp; omega
theorem c8.units {k:Nat} {A:Around} (r:c8 k A):A.units + 64 < cLine:=by have:=r.un; omega
def Jm:TA:=fun _ H Q=>Q [] H
def Ca (ta:TE) (tr:TA):TA:=fun σ H Q=>ta σ H fun x H1=>tr σ H1 fun xs H2=>Q (x :: xs) H2
section
variable {X:Cx} {e:Expr} {es:List Expr} {te:TE} {t:TA} {pos:Pos}
theorem dz:PA X [] Jm:=fun _ _ _ _ H Q I h=>Calls.spliced_nil ⟨[],H,I,.nil,h⟩
theorem cn (ha:PE X e te) (hr:PA X es t) (hs:starEach (e :: es) X.env=(false,eval e X.env) :: starEach es X.env:=by rfl):PA X (e :: es) (Ca te t):=by
 intro pos pins s σ H Q I h
 rw [hs]
 show wpAny _ _ (spliced ((false,eval e X.env) :: backTo pos (starEach es X.env))) _ _ s
 refine Calls.spliced_cons (dZ (ha pins s σ H _ I h) fun u s1 ⟨x,H1,I1,r1,q1⟩=>?_)
 exact dZ (hr pos pins s1 σ H1 _ I1 q1) fun us s2 ⟨xs,H2,I2,r2,q2⟩=>⟨x :: xs,H2,I2,.cons r1 r2,q2⟩
def Pj (t:TA):TE:=fun σ H Q=>t σ H fun xs H1=>xs.length<=sizeLine /\ ∀ p,H1 p=none->Q (.ref p) (upd H1 p (.tup xs))
def Pk (t:TA):TE:=fun σ H Q=>t σ H fun xs H1=>xs.length<=sizeLine /\ ∀ p,H1 p=none->Q (.ref p) (upd H1 p (.lst xs))
theorem Jn {x1} (h:PA X es t):PE X (.Tuple es x1 pos) (Pj t):=by
 intro pins s σ H Q I hq
 refine wpAny_Tuple_spliced (dZ (h pos pins s σ H _ I hq) fun us s1 ⟨xs,H1,I1,r,z,q⟩=>⟨by rw [<- r.length]; exact z,?_⟩)
 have hf:H1 s1.heap.objs.size=none:=I1.cg.fresh (Nat.le_refl _)
 refine ⟨.ref s1.heap.objs.size,upd H1 s1.heap.objs.size (.tup xs),I1.laid (t':=s1.toks) (fun b u e=>Heap.get?_push_of_some _ e) (Nat.le_refl _) ?_,rfl,q _ hf⟩
 exact ⟨z,us,r,⟨_,Heap.get?_push_size _ rfl,rfl,_,rfl⟩⟩
theorem Jo (h:PA X es t):PE X (.List es pos) (Pk t):=by
 intro pins s σ H Q I hq
 refine wpAny_List_spliced (dZ (h pos pins s σ H _ I hq) fun us s1 ⟨xs,H1,I1,r,z,q⟩=>⟨by rw [<- r.length]; exact z,?_⟩)
 have hf:H1 s1.heap.objs.size=none:=I1.cg.fresh (Nat.le_refl _)
 refine ⟨.ref s1.heap.objs.size,upd H1 s1.heap.objs.size (.lst xs),I1.laid (t':=s1.toks) (fun b u e=>Heap.get?_push_of_some _ e) (Nat.le_refl _) ?_,rfl,q _ hf⟩
 exact ⟨z,us,0,r,Heap.get?_push_size _ rfl⟩
end
abbrev Sp:=List V->Hp->VK->XK->Prop
abbrev EW:=List Env->Hp->Shared->XK->Value->Shared->Prop
structure Cb (P:Program) (w:World) (K:PySem.W.Frag) (mg:Str->Option Value) (base:Heap) (A:Around) (outer:List Env) (s:Shared) (H:Hp):Prop where
 frames:A.frames=some outer
 mod:Mod K mg base
 bs:∀ b o,base.get? b=some o->s.heap.get? b=some o /\ H b=none
 zl:base.objs.size<=s.heap.objs.size
 mC:s.heap.FunFrames base outer
 HI:∀ b∈lj outer,H b=none
 cg:lh P w H s.heap
 bare:AllBare s.gens
def CE (outer:List Env) (P:Program) (w:World) (H:Hp) (s:Shared) (Q:VK) (u:Value) (s':Shared):Prop:=
 ∃ v H',s'.os=s.os /\ AllBare s'.gens /\ Un (lj outer) [] H H' s.heap s'.heap /\ lh P w H' s'.heap /\ RelV v u /\ Q v H'
def CR (CX:EW) (outer:List Env) (P:Program) (w:World) (H:Hp) (s:Shared) (Q:VK) (E:XK) (r:Result) (s':Shared):Prop:=
 match r with
 | .ok (.ret u)=>CE outer P w H s Q u s'
 | .ok _=>False
 | .error e=>CX outer H s E e s'
structure lF (P:Program) (w:World) (K:PySem.W.Frag) (mg:Str->Option Value) (base:Heap) (CX:EW) (k:Nat) (f:Addr) (fd:FuncData) (ps:List Str) (sp:Sp):Prop where
 len:∀ vs H Q E,sp vs H Q E->vs.length=ps.length
 run:∀ (A:Around) (outer:List Env) (s:Shared) (H:Hp) (args:Args) (us:List Value) (vs:List V) (Q:VK) (E:XK),c8 k A->Cb P w K mg base A outer s H->BindsTo s fd args (ps.zip us)->bw vs us->sp vs H Q E->
  codeAny (model P w) A (.call (.ref f) args) (CR CX outer P w H s Q E) s
section
variable {X:Cx} {pins:List (Addr×Obj)} {σ:St} {H:Hp} {s s':Shared}
theorem Inv.Pm (I:Inv X pins σ H s):Cb X.prog X.w X.K X.mg X.base X.A X.stack s H:=
 ⟨I.ok.frames,I.ok.mod,I.bs,Nat.le_trans I.ok.zl I.sz,I.stack,I.sJ,I.cg,I.bare⟩
theorem Inv.after {Q:VK} {u:Value} (I:Inv X pins σ H s) (h:CE X.stack X.prog X.w H s Q u s'):EP X pins σ Q u s':=by
 obtain ⟨v,H',os,bare,un,cg,r,q⟩:=h
 obtain ⟨hh,g,d,t,Pn⟩:=s'
 obtain rfl:Pn=s.os:=os
 exact ⟨v,H',I.call (h':=hh) (g':=g) (d':=d) (t':=t) (ch:=[]) un cg bare (fun b z=>absurd z (by simp)),r,q⟩
end
def HN (sp:Sp) (HP:List V) (E:XK) (t:TA):TE:=fun σ H Q=>t σ H fun vs H1=>sp (vs ++ HP) H1 Q E
def Binds (K:PySem.W.Frag) (fd:FuncData) (ps:List Str) (ds:List Value):Prop:=
 ∀ (s:Shared) (us:List Value),K.In s.heap->(us ++ ds).length=ps.length->BindsTo s fd ⟨us,[]⟩ (ps.zip (us ++ ds))
theorem Binds.all {K:PySem.W.Frag} {fd:FuncData} {ps:List Str} (h:∀ us:List Value,us.length=ps.length->bindArgs fd ⟨us,[]⟩=pure (ps.zip us)):Binds K fd ps []:=fun s us _ hl=>by
 rw [List.append_nil] at hl ⊢
 exact .of_eq (h us hl)
def xF (CX:EW) (X:Cx) (E:XK):Prop:=∀ (pins:List (Addr×Obj)) (σ:St) (H:Hp) (s:Shared) (e:Value) (s':Shared),Inv X pins σ H s->CX X.stack H s E e s'->X.xe e s'
section
variable {X:Cx} {CX:EW} {k:Nat} {f C:Addr} {fd:FuncData} {ps:List Str} {sp:Sp} {HP:List V} {ds:List Value} {E:XK} {x m:Str} {p pos apos:Pos} {e o:Expr} {es:List Expr} {ta:TE} {t:TA}
theorem Jp {pins:List (Addr×Obj)} {σ:St} {H:Hp} {s:Shared} {Q:VK} {us:List Value} {vs:List V} (F:lF X.prog X.w X.K X.mg X.base CX k f fd ps sp) (hr:c8 k X.A) (hb:Binds X.K fd ps ds) (hd:bw HP ds) (hx:xF CX X E)
  (I:Inv X pins σ H s) (r:bw vs us) (h:sp (vs ++ HP) H Q E):wpAny (model X.prog X.w) X.A (call (.ref f) us) (EP X pins σ Q) X.xe s:=by
 have r2:bw (vs ++ HP) (us ++ ds):=r.append hd
 have hl:(us ++ ds).length=ps.length:=by rw [<- r2.length]; exact F.len _ _ _ _ h
 refine wpAny_call (codeAny_mono (F.run X.A X.stack s H ⟨us,[]⟩ (us ++ ds) (vs ++ HP) Q E hr I.Pm (hb s us I.qM hl) r2 h) fun r s' hq=>?_)
 cases r with
 | error e=>exact hx pins σ H s e s' I hq
 | ok fl=>
   cases fl with
   | ret u=>exact I.after hq
   | next=>exact False.elim hq
   | brk=>exact False.elim hq
   | cont=>exact False.elim hq
theorem Fp (F:lF X.prog X.w X.K X.mg X.base CX k f fd ps sp) (hr:c8 k X.A) (hg:Gl X x) (hm:X.mg x=some (.ref f)) (hk:PySem.W.keepIn X.K (.ref f)=true) (hb:Binds X.K fd ps ds) (hd:bw HP ds) (hx:xF CX X E)
  (ha:PA X (e :: es) t) (qW:(x == ("__debug__":Str))=false:=by decide) (he:starEach (e :: es) X.env=(false,eval e X.env) :: starEach es X.env:=by rfl) (lp:(backTo pos (starEach es X.env)).any (·.1)=false:=by rfl):
  PE X (.Call (.Name x p) (e :: es) [] pos) (HN sp HP E t):=by
 intro pins s σ H Q I h
 refine wpAny_Call_Name_kw (zo I hg hm ?_ qW)
 refine PySem.W.callWith_K (h₀:=X.base) I.ok.mod.Om hk (dZ (ha pos pins s σ H _ I h) fun us s1 ⟨vs,H1,I1,r,q⟩=>⟨I1.qM,?_⟩) he lp
 exact Jp F hr hb hd hx I1 r q
end
section
variable {X:Cx} {CX:EW} {k:Nat} {f C:Addr} {fd:FuncData} {ps ks:List Str} {sp:Sp} {E:XK} {x m:Str} {p pos apos X5:Pos} {e o:Expr} {es:List Expr} {kws:List Keyword} {te ta:TE} {t tk:TA} {nm:Option Str}
variable {g:List Value->List Value->List Value} {gV:List V->List V->List V}
end
structure aI (N P:List Str) (sc:Scope):Prop where
 kind:sc.kind=.function
 co:sc.isCoroutine=false
 gen:sc.isGenerator=false
 nd:N.Nodup
 pre:N.take P.length=P
 par:∀ x∈P,sc.names.lookup x=some .local \/ sc.names.lookup x=some .cell
 Jq:∀ y∈sc.names,y.2≠.free
theorem rQ {kindOf:Str->Option NameKind} {x:Str}:∀ {binds:List (Str×Value)} {m:Str->Option Value},(∀ v,(x,v)∉binds)->bindL kindOf binds m x=m x
 | [],_,_=>rfl
 | (n,v) :: r,m,h=>by
   unfold bindL
   rw [rQ fun w hw=>h w (List.mem_cons_of_mem _ hw)]
   split
   ·have:x≠n:=by rintro rfl; exact h v List.mem_cons_self
    simp [this]
   ·rfl
theorem rT {kindOf:Str->Option NameKind} {x:Str}:∀ {binds:List (Str×Value)} {m:Str->Option Value},(∀ v,(x,v)∉binds)->bindC kindOf binds m x=m x
 | [],_,_=>rfl
 | (n,v) :: r,m,h=>by
   unfold bindC
   rw [rT fun w hw=>h w (List.mem_cons_of_mem _ hw)]
   split
   ·rfl
   ·have:x≠n:=by rintro rfl; exact h v List.mem_cons_self
    simp [this]
theorem rV {kindOf:Str->Option NameKind} {x:Str} {v:Value}:∀ {P:List Str} {vs:List Value} {i:Nat} {m:Str->Option Value},P.Nodup->P[i]?=some x->vs[i]?=some v->kindOf x=some .local->
  bindL kindOf (P.zip vs) m x=some v
 | [],_,_,_,_,h,_,_=>by simp at h
 | _ :: _,[],_,_,_,_,h,_=>by simp at h
 | p :: P,w :: vs,0,m,nd,h1,h2,hk=>by
   simp at h1 h2; subst h1; subst h2
   show bindL kindOf ((p,w) :: P.zip vs) m p=_
   unfold bindL
   rw [rQ fun v hv=>(List.nodup_cons.mp nd).1 (List.of_mem_zip hv).1,if_pos hk]
   simp
 | p :: P,w :: vs,i + 1,m,nd,h1,h2,hk=>by
   show bindL kindOf ((p,w) :: P.zip vs) m x=_
   unfold bindL
   exact rV (i:=i) (List.nodup_cons.mp nd).2 (by simpa using h1) (by simpa using h2) hk
theorem rW {kindOf:Str->Option NameKind} {x:Str} {v:Value}:∀ {P:List Str} {vs:List Value} {i:Nat} {m:Str->Option Value},P.Nodup->P[i]?=some x->vs[i]?=some v->kindOf x≠some .local->
  bindC kindOf (P.zip vs) m x=some v
 | [],_,_,_,_,h,_,_=>by simp at h
 | _ :: _,[],_,_,_,_,h,_=>by simp at h
 | p :: P,w :: vs,0,m,nd,h1,h2,hk=>by
   simp at h1 h2; subst h1; subst h2
   show bindC kindOf ((p,w) :: P.zip vs) m p=_
   unfold bindC
   rw [rT fun v hv=>(List.nodup_cons.mp nd).1 (List.of_mem_zip hv).1,if_neg hk]
   simp
 | p :: P,w :: vs,i + 1,m,nd,h1,h2,hk=>by
   show bindC kindOf ((p,w) :: P.zip vs) m x=_
   unfold bindC
   exact rW (i:=i) (List.nodup_cons.mp nd).2 (by simpa using h1) (by simpa using h2) hk
def start (N:List Str) (vs:List V):St:=vs.map some ++ List.replicate (N.length - vs.length) none
def pB (CX:EW) (P:Program) (w:World) (K:PySem.W.Frag) (mg:Str->Option Value) (base:Heap) (N:List Str) (qual:Str) (scope:Scope) (f:Addr) (cd:Value) (A:Around) (outer:List Env) (s:Shared) (H:Hp) (E:XK):Cx where
 prog:=P
 w:=w
 K:=K
 mg:=mg
 base:=base
 A:=A.deeper (envOfC qual scope s.heap.objs.size f cd)
 N:=N
 fS:=s
 AB:=H
 env:=envOfC qual scope s.heap.objs.size f cd
 outer:=outer
 stack:=envOfC qual scope s.heap.objs.size f cd :: outer
 ex:=[]
 calm:=true
 fn:=fun _=>true
 pn:=[]
 xe:=fun e s'=>wpAny (model P w) (A.deeper (envOfC qual scope s.heap.objs.size f cd)) (leaving (envOfC qual scope s.heap.objs.size f cd) e) (fun _ Fq=>CX outer H s E e Fq) (fun e' Fq=>CX outer H s E e' Fq) s'
theorem uZ {sc:Scope} {n:Nat} {x:Str} (h:sc.names.lookup x=some .cell):∃ c,(cellsFrom n sc.names []).lookup x=some c:=by
 have q:=PySem.W.cellsFrom_some sc.names n [] (.inl h)
 exact Option.isSome_iff_exists.mp q
theorem AL {CX:EW} {P:Program} {w:World} {K:PySem.W.Frag} {mg:Str->Option Value} {base:Heap} {N ps:List Str} {qual:Str} {scope:Scope} {f:Addr} {cd:Value} {A:Around} {outer:List Env} {s s1:Shared} {H:Hp} {E:XK} {us:List Value} {vs:List V}
  (S:aI N ps scope) (hd:A.handled=none) (e0:Cb P w K mg base A outer s H) (hl:vs.length=ps.length) (r:bw vs us)
  (x:InCallC s s.heap.objs.size (bindL (envOfC qual scope s.heap.objs.size f cd).kindOf (ps.zip us) fun _=>none) (cellsFrom (s.heap.objs.size + 1) scope.names []) (bindC (envOfC qual scope s.heap.objs.size f cd).kindOf (ps.zip us) fun _=>none) s1):
  Inv (pB CX P w K mg base N qual scope f cd A outer s H E) [] (start N vs) H s1:=by
 have lp:ps.length<=N.length:=by have:=congrArg List.length S.pre; rw [List.length_take] at this; omega
 obtain ⟨h1,tk,rfl,hk⟩:=x.done
 have Fs:∀ b:Addr,b∉(pB CX P w K mg base N qual scope f cd A outer s H E).ex:=fun b z=>absurd (show b∈([]:List Addr) from z) (by simp)
 refine ⟨⟨e0.mod,S.kind,rfl,rfl,Nat.le_refl _,fun y z c h1 h2=>?_,fun y hy=>?_,fun y c _ h=>?_,fun _=>hd,Around.frames_deeper e0.frames,.inr ⟨rfl,rfl⟩,fun b z=>absurd z (Fs b),e0.bs,e0.zl,fun b _ _=>Fs b,fun b z=>absurd z (Fs b),e0.mC,e0.HI⟩,
  rfl,e0.bare,Un.kept hk,⟨_,x.toInCall.ns,fun i y v h1 h2 h3=>?_⟩,fun y c h=>⟨_,x.cell y c h⟩,e0.cg.fresh (Nat.le_refl _),fun y c h=>?_,fun p hp=>absurd (show p∈([]:List (Addr×Obj)) from hp) (by simp),e0.cg.kept hk,?_⟩
 ·exact name_of_addr x.apart (PySem.mem_of_lookup h1) (PySem.mem_of_lookup h2)
 ·have hy:scope.names.lookup y=some .cell \/ scope.names.lookup y=some .free:=hy
  rcases hy with hy | hy
  ·exact uZ hy
  ·exact absurd rfl (S.Jq _ (PySem.mem_of_lookup hy))
 ·exact Nat.le_of_lt (x.above y c (PySem.mem_of_lookup h))
 ·have hi:i < vs.length:=by
   unfold start at h2
   by_cases hi:i < vs.length
   ·exact hi
   ·rw [List.getElem?_append_right (by simpa using hi)] at h2
    rw [List.getElem?_replicate] at h2
    split at h2 <;> cases h2
  have ha:vs[i]?=some v:=by
   unfold start at h2
   rw [List.getElem?_append_left (by simpa using hi),List.getElem?_map] at h2
   cases e:vs[i]? with
   | none=>rw [e] at h2; cases h2
   | some a=>rw [e] at h2; cases h2; rfl
  obtain ⟨u,hu,rv⟩:=r.get ha
  have hp:ps[i]?=some y:=by
   rw [<- S.pre,List.getElem?_take_of_lt (by omega)]; exact h1
  have WD:ps.Nodup:=by rw [<- S.pre]; exact S.nd.sublist (List.take_sublist _ _)
  refine ⟨u,rv,?_⟩
  rcases S.par y (List.mem_of_getElem? hp) with k | k
  ·exact .inl ⟨k,rV WD hp hu k⟩
  ·obtain ⟨c,e⟩:=uZ (n:=s.heap.objs.size + 1) k
   refine .inr ⟨.inl k,c,e,?_⟩
   have q:=x.cell y c e
   rw [rW WD hp hu (by show scope.names.lookup y≠_; rw [k]; decide)] at q
   exact q
 ·exact e0.cg.fresh (Nat.le_of_lt (x.above y c (PySem.mem_of_lookup h)))
 ·unfold start
  show _=N.length
  rw [List.length_append,List.length_map,List.length_replicate]
  omega
theorem HQ {CX:EW} {P:Program} {w:World} {K:PySem.W.Frag} {mg:Str->Option Value} {base:Heap} {k:Nat} {f:Addr} {name qual:Str} {params:Arguments} {body:List Stmt} {scope:Scope} {dV kV doc pm cR ct oc:Value} {an od:Option Addr}
  {Cc:Array (Option Value)} {N ps:List Str} {sp:Sp} (lk:K.lookup f=some ⟨oc,od,.func (PySem.W.fnOf name qual params body scope dV kV doc pm an cR ct),Cc⟩) (qT:PySem.W.codeIn K cR qual=true) (S:aI N ps scope)
  (len:∀ vs H Q E,sp vs H Q E->vs.length=ps.length)
  (j4:∀ (A:Around) (outer:List Env) (s:Shared) (H:Hp) (vs:List V) (Q:VK) (E:XK),c8 k (A.deeper (envOfC qual scope s.heap.objs.size f cR))->sp vs H Q E->
   ∃ t,mE (pB CX P w K mg base N qual scope f cR A outer s H E) body t /\ t { nx:=fun _ H'=>Q .h8 H',rt:=Q } (start N vs) H):
  lF P w K mg base CX (k + 1) f (PySem.W.fnOf name qual params body scope dV kV doc pm an cR ct) ps sp:=by
 refine ⟨len,fun A outer s H args us vs Q E hr e0 hb r zq=>?_⟩
 have hl:=len _ _ _ _ zq
 have KX:K.In s.heap:=e0.mod.Om.keeps fun b o e=>(e0.bs b o e).1
 have lim:s.heap.NoLimit:=e0.mod.nolimit.keeps fun b o e=>(e0.bs b o e).1
 have Mw:∀ y∈ps.zip us,scope.names.lookup y.1=some .local \/ (scope.names.lookup y.1=some .cell /\ ((cellsFrom (s.heap.objs.size + 1) scope.names []).lookup y.1).isSome=true):=fun ⟨n,v⟩ hy=>by
  rcases S.par n (List.of_mem_zip hy).1 with q | q
  ·exact .inl q
  ·exact .inr ⟨q,PySem.W.cellsFrom_some _ _ _ (.inl q)⟩
 refine codeAny_call_function hr.depth (KX _ _ lk) rfl S.co S.gen rfl (PySem.W.codeRec_of KX qT) (hb _ _ _ _ ?_)
 refine wpAny_newFunctionEnv_cells S.kind Mw fun env he s1 x=>?_
 subst he
 refine ⟨lim.keeps x.toInCall.keep,codeAny_func ?_⟩
 obtain ⟨t,ht,hq⟩:=j4 A outer s H vs Q E (hr.deeper _) zq
 have I:Inv (pB CX P w K mg base N qual scope f cR A outer s H E) [] (start N vs) H s1:=AL S hr.hd e0 hl r x
 refine wpAny_mono (ht [] s1 (start N vs) H _ I hq) (fun fl s' hs=>?_) fun e s' hs=>hs
 have fin:∀ {cZ:St} {H':Hp} {v:V} {u:Value},Inv (pB CX P w K mg base N qual scope f cR A outer s H E) [] cZ H' s'->RelV v u->Q v H'->CE outer P w H s Q u s':=
  fun {cZ H' v u} J rv q=>⟨v,H',J.os,J.bare,J.base,J.cg,rv,q⟩
 cases fl with
 | ret u=>
   obtain ⟨v,cZ,H',J,rv,q⟩:=hs
   exact fin J rv q
 | next=>
   obtain ⟨cZ,H',J,q⟩:=hs
   exact fin (v:=V.h8) (u:=Value.none) J rfl q
 | brk=>
   obtain ⟨_,_,_,q⟩:=hs
   exact False.elim q
 | cont=>
   obtain ⟨_,_,_,q⟩:=hs
   exact False.elim q
section
variable {X:Cx} {x:Str} {p pos:Pos} {e:Expr} {es:List Expr} {t:TA} {id T:String} {r:List V->Hp->VK->Prop}
def Ou (r:List V->Hp->VK->Prop) (t:TA):TE:=fun σ H Q=>t σ H fun vs H1=>r vs H1 Q
theorem pC (hc:eX X (.builtin id) r) (hg:Gl X x) (hm:X.mg x=none) (hv:bootBuiltins x=some (.builtin id)) (ha:PA X (e :: es) t) (hn:x≠"__name__":=by decide) (qW:(x == ("__debug__":Str))=false:=by decide)
  (he:starEach (e :: es) X.env=(false,eval e X.env) :: starEach es X.env:=by rfl) (lp:(backTo pos (starEach es X.env)).any (·.1)=false:=by rfl):PE X (.Call (.Name x p) (e :: es) [] pos) (Ou r t):=by
 intro pins s σ H Q I h
 refine wpAny_Call_Name_kw (iB I hg hm hv ?_ hn qW)
 exact PyProof.Rows.callWith_builtin1 (dZ (ha pos pins s σ H _ I h) fun us s1 ⟨vs,H1,I1,r1,q1⟩=>hc pins s1 σ H1 vs us Q I1 r1 q1) he lp
theorem nz (hc:eX X (.type T) r) (hg:Gl X x) (hm:X.mg x=none) (hv:bootBuiltins x=some (.type T)) (ha:PA X (e :: es) t) (hn:x≠"__name__":=by decide) (qW:(x == ("__debug__":Str))=false:=by decide)
  (he:starEach (e :: es) X.env=(false,eval e X.env) :: starEach es X.env:=by rfl) (lp:(backTo pos (starEach es X.env)).any (·.1)=false:=by rfl):PE X (.Call (.Name x p) (e :: es) [] pos) (Ou r t):=by
 intro pins s σ H Q I h
 refine wpAny_Call_Name_kw (iB I hg hm hv ?_ hn qW)
 exact PyProof.Rows.callWith_type1 (dZ (ha pos pins s σ H _ I h) fun us s1 ⟨vs,H1,I1,r1,q1⟩=>hc pins s1 σ H1 vs us Q I1 r1 q1) he lp
end
end L2
namespace HT
open PySem PyProof.Rows
section
open PySem.SeqAt
open PySem.AutoSeq1 (wpAny_loadPart')
open PySem.MeetsSeq PySem.MeetsSeq2 PySem.MeetsSeq3
end
section
variable {prog:Program} {w:World} {A:Around} {E:Value->Shared->Prop} {s:Shared}
theorem Ft {t b:Addr} {vs ws:List Value} {Q:Value->Shared->Prop} (ht:IsTup s.heap t vs.toArray) (hb:IsTup s.heap b ws.toArray) (hv:vs≠[])
  (h1:ws=[]->Q (.ref t) s) (h2:ws≠[]->Q (.ref s.heap.objs.size) { s with heap:=s.heap.push { cls:=.type "tuple",data:=.seq (vs ++ ws).toArray } })
  (hsz:vs.length + ws.length<=sizeLine):wpAny (model prog w) A (binaryOp .Add (.ref t) (.ref b)) Q E s:=by
 obtain ⟨⟨cls,dd,data,sl⟩,ho,hc,n,hd⟩:=id ht
 obtain ⟨⟨X6,WE,data2,LF⟩,nq,Jr,n2,hd2⟩:=id hb
 simp only at hc hd Jr hd2
 subst hc hd Jr hd2
 have e:vs.toArray ++ ws.toArray=(vs ++ ws).toArray:=by simp
 by_cases hw:ws=[]
 ·exact concat_meets ⟨_,ho,rfl⟩ ⟨_,nq,rfl⟩ noFill_tuple_add seq_tuple_add PySem.F.slot_tuple_add PySem.F.entry_tuple_add (PySem.F.args_tuple_add_2 _ _)
   (tuple_addW1 t b vs.toArray ws.toArray n n2 dd WE sl LF (by simpa using hv) (by simp [hw])) ⟨ho,nq,h1 hw⟩
 ·refine concat_meets ⟨_,ho,rfl⟩ ⟨_,nq,rfl⟩ noFill_tuple_add seq_tuple_add PySem.F.slot_tuple_add PySem.F.entry_tuple_add (PySem.F.args_tuple_add_2 _ _)
   (tuple_addW2 t b vs.toArray ws.toArray n n2 dd WE sl LF (by simpa using hv) (by simpa using hw) (by rw [List.size_toArray,List.size_toArray]; exact hsz)) ⟨ho,nq,?_⟩
  rw [e]
  exact h2 hw
def qX (n d:Nat):Option Int->Nat
 | none=>d
 | some v=>if v < 0 then (v + (n:Int)).toNat else min v.toNat n
end
end HT
namespace L2
open PySem PySem.Spec PyProof.Rows
abbrev TO:=St->Hp->(Option Int->Hp->Prop)->Prop
def PO (X:Cx) (e:Option Expr) (t:TO):Prop:=
 ∀ (pins:List (Addr×Obj)) (s:Shared) (σ:St) (H:Hp) (Q:Option Int->Hp->Prop),Inv X pins σ H s->t σ H Q->
   wpAny (model X.prog X.w) X.A (evalPart e X.env) (fun u s'=>∃ o H',Inv X pins σ H' s' /\ IsPart u o /\ Q o H') X.xe s
def Mx (t:TE):TO:=fun σ H Q=>t σ H fun x H1=>∃ i,x=.int i /\ Q (some i) H1
theorem intsAre_of {ns:List Int}:∀ {us:List Value},bw (ns.map V.int) us->IntsAre us ns:=by
 induction ns with
 | nil=>intro us r; rw [List.map_nil] at r; cases r; exact .nil
 | cons n ns ih=>
   intro us r
   rw [List.map_cons] at r
   cases r with
   | cons r1 r2=>
     obtain ⟨t,e⟩:=r1
     subst e
     exact .cons n t (ih r2)
section
variable {X:Cx} {e:Expr} {te:TE} {lo hi:Option Expr} {tl th:TO} {pos p2:Pos}
theorem Fu (h:PE X e te):PO X (some e) (Mx te):=by
 intro pins s σ H Q I hw
 rw [evalPart_some]
 refine dZ (h pins s σ H _ I hw) fun u s1 ⟨x,H1,I1,r1,q1⟩=>?_
 obtain ⟨i,rfl,q⟩:=q1
 obtain ⟨t,rfl⟩:=r1
 exact ⟨some i,H1,I1,.int i t,q⟩
def WG (X:Cx) (r:V->Option Int->Option Int->Hp->VK->Prop):Prop:=
 ∀ (pins:List (Addr×Obj)) (s:Shared) (σ:St) (H:Hp) (x:V) (v vl vu:Value) (lo hi:Option Int) (sl:Addr) (Q:VK),Inv X pins σ H s->RelV x v->s.heap.IsSliceOf sl vl vu .none->IsPart vl lo->IsPart vu hi->r x lo hi H Q->
   ∃ T id,typeLookup (.type T) "__getitem__"=pure (some (.builtin id)) /\ s.TypeIs v T /\ wpAny (model X.prog X.w) X.A (getItem v (.ref sl)) (EP X pins σ Q) X.xe s
def X7 (r:V->Option Int->Option Int->Hp->VK->Prop) (te:TE) (tl th:TO):TE:=fun σ H Q=>te σ H fun x H1=>tl σ H1 fun l H2=>th σ H2 fun u H3=>r x l u H3 Q
theorem Cd {r:V->Option Int->Option Int->Hp->VK->Prop} (hr:WG X r) (he:PE X e te) (hl:PO X lo tl) (hu:PO X hi th):PE X (.Subscript e (.Slice lo hi none p2) pos) (X7 r te tl th):=by
 intro pins s σ H Q I h
 refine Subscript_ (dZ (he pins s σ H _ I h) fun v s1 ⟨x,H1,I1,r1,q1⟩=>?_)
 refine wpAny_Slice (dZ (hl pins s1 σ H1 _ I1 q1) fun vl s2 ⟨l,H2,I2,pl,q2⟩=>dZ (hu pins s2 σ H2 _ I2 q2) fun vu s3 ⟨u,H3,I3,pu,q3⟩=>?_)
 rw [evalPart_none]
 refine wpAny_pure ?_
 have I4:Inv X pins σ H3 { s3 with heap:=s3.heap.push { cls:=.type "slice",data:=.fields #[vl,vu,.none] } }:=I3.kept (t':=s3.toks) fun b ob q=>Heap.get?_push_of_some _ q
 obtain ⟨T,id,hT,ht,hg⟩:=hr pins { s3 with heap:=s3.heap.push { cls:=.type "slice",data:=.fields #[vl,vu,.none] } } σ H3 x v vl vu l u s3.heap.objs.size Q I4 r1 (Heap.IsSliceOf.new ..) pl pu q3
 show wpAny (model X.prog X.w) X.A (subscriptTail e (.Slice lo hi none p2) v (.ref s3.heap.objs.size)) (EP X pins σ Q) X.xe { s3 with heap:=s3.heap.push { cls:=.type "slice",data:=.fields #[vl,vu,.none] } }
 exact tail_any (ops:=[.ref s3.heap.objs.size,v]) ht hT hg (by with_unfolding_all rfl)
def Ce (xs:List V) (lo hi:Option Int):List V:=(xs.drop (HT.qX xs.length 0 lo)).take (HT.qX xs.length xs.length hi - HT.qX xs.length 0 lo)
theorem u0 (xs:List V) (lo hi:Option Int):(Ce xs lo hi).length<=xs.length:=by
 unfold Ce
 rw [List.length_take,List.length_drop]
 omega
def HR (K:PySem.W.Frag):R2:=fun x y H Q=>∃ a b xs ys,x=.ref a /\ y=.ref b /\ jn K H a xs /\ jn K H b ys /\ xs≠[] /\ xs.length + ys.length<=sizeLine /\
 (ys=[]->Q (.ref a) H) /\ (ys≠[]->∀ p,H p=none->Q (.ref p) (upd H p (.tup (xs ++ ys))))
theorem bw.oW {xs:List V} {us:List Value} (r:bw xs us):us=[]↔xs=[]:=by
 cases r with
 | nil=>simp
 | cons _ _=>simp
theorem Fv:iV X (binaryOp .Add) (HR X.K):=by
 intro pins s σ H x y v u Q I rx ry h
 obtain ⟨a,b,xs,ys,rfl,rfl,ha,hb,hx,hz,q1,q2⟩:=h
 cases rx
 cases ry
 obtain ⟨its,r1,p1,_⟩:=I.tuple ha
 obtain ⟨qY,r2,p2,_⟩:=I.tuple hb
 refine HT.Ft p1 p2 (fun z=>hx (r1.oW.mp z)) (fun z=>⟨.ref a,H,I,rfl,q1 (r2.oW.mp z)⟩) (fun z=>?_) (by rw [<- r1.length,<- r2.length]; exact hz)
 refine ⟨.ref s.heap.objs.size,_,I.laid (t':=s.toks) (o:=.tup (xs ++ ys)) (fun b ob q=>Heap.get?_push_of_some _ q) (Nat.le_refl _) ?_,rfl,q2 (fun w=>z (r2.oW.mpr w)) _ (I.cg.fresh (Nat.le_refl _))⟩
 exact ⟨by rw [List.length_append]; exact hz,_,r1.append r2,IsTup.new _ _⟩
end
def Js (n:Nat) (i:Int):Option Nat:=if 0<=i then (if i < n then some i.toNat else none) else if -(n:Int)<=i then some (i + n).toNat else none
def qN {α:Type} (xs:List α) (i:Int):Option α:=(Js xs.length i).bind fun j=>xs[j]?
theorem Fw {n:Nat} {i:Int} {j:Nat} (h:Js n i=some j):seqIndex? i n=some j /\ j < n /\ -(n:Int)<=i /\ i < n:=by
 unfold Js at h
 by_cases h0:0<=i
 ·rw [if_pos h0] at h
  by_cases h1:i < n
  ·rw [if_pos h1] at h
   have e:i.toNat=j:=Option.some.inj h
   exact ⟨by rw [seqIndex_of h0 h1,e],by omega,by omega,h1⟩
  ·rw [if_neg h1] at h; cases h
 ·rw [if_neg h0] at h
  by_cases h1: -(n:Int)<=i
  ·rw [if_pos h1] at h
   have e:(i + n).toNat=j:=Option.some.inj h
   exact ⟨by rw [seqIndex_neg (by omega) h1,e],by omega,h1,by omega⟩
  ·rw [if_neg h1] at h; cases h
theorem sM {α:Type} {xs:List α} {i:Int} {v:α} (h:qN xs i=some v):∃ j,seqIndex? i xs.length=some j /\ xs[j]?=some v /\ j < xs.length /\ -(xs.length:Int)<=i /\ i < xs.length:=by
 unfold qN at h
 cases e:Js xs.length i with
 | none=>rw [e] at h; cases h
 | some j=>
   rw [e] at h
   obtain ⟨h1,h2,h3,h4⟩:=Fw e
   exact ⟨j,h1,h,h2,h3,h4⟩
theorem h9 {α:Type} {xs:List α} {j:Nat} {v:α} (h:xs[j]?=some v):qN xs (j:Int)=some v:=by
 have hj:j < xs.length:=(List.getElem?_eq_some_iff.mp h).1
 have e:Js xs.length (j:Int)=some j:=by
  unfold Js
  rw [if_pos (by omega),if_pos (by omega)]; simp
 unfold qN; rw [e]; exact h
def zr (b:Expr):Prop:=∀ o i,subscripted b false o i=operate [o,i] (getItem o i)
def Fy (X:Cx) (r:R2):Prop:=
 ∀ (value slice:Expr) (pins:List (Addr×Obj)) (s:Shared) (σ:St) (H:Hp) (x y:V) (v u:Value) (Q:VK),Inv X pins σ H s->RelV x v->RelV y u->r x y H Q->
   subscripted slice false v u=operate [v,u] (getItem v u)->wpAny (model X.prog X.w) X.A (subscriptTail value slice v u) (EP X pins σ Q) X.xe s
def Ov (X:Cx) (id:String) (r:V->List V->Hp->VK->Prop):Prop:=
 ∀ (pins:List (Addr×Obj)) (s:Shared) (σ:St) (H:Hp) (x:V) (xs:List V) (v:Value) (us:List Value) (Q:VK),Inv X pins σ H s->RelV x v->bw xs us->r x xs H Q->
   wpAny (model X.prog X.w) X.A (call (.builtin id) (v :: us)) (EP X pins σ Q) X.xe s
section
variable {X:Cx} {a b:Expr} {ta tb:TE} {pos:Pos}
theorem Fy.or {r r':R2} (h:Fy X r) (h':Fy X r'):Fy X (fun x y H Q=>r x y H Q \/ r' x y H Q):=by
 intro value slice pins s σ H x y v u Q I rx ry q hs
 rcases q with q | q
 ·exact h value slice pins s σ H x y v u Q I rx ry q hs
 ·exact h' value slice pins s σ H x y v u Q I rx ry q hs
theorem My {r:R2} (hr:Fy X r) (ha:PE X a ta) (hb:PE X b tb) (hs:zr b):PE X (.Subscript a b pos) (LD r ta tb):=by
 intro pins s σ H Q I h
 exact Subscript_ (Jf ha hb I h fun v u s2 x y H2 I2 rx ry q=>hr a b pins s2 σ H2 x y v u Q I2 rx ry q (hs _ _))
def Mz (K:PySem.W.Frag):R2:=fun x y H Q=>∃ p xs i v,x=.ref p /\ y=.int i /\ iC K H p xs /\ qN xs i=some v /\ Q v H
def MA (K:PySem.W.Frag):R2:=fun x y H Q=>∃ p xs i v,x=.ref p /\ y=.int i /\ jn K H p xs /\ qN xs i=some v /\ Q v H
def MB:R2:=fun x y H Q=>∃ z i c,x=.str z /\ y=.int i /\ z.length<=sizeLine /\ qN z.cps.toList i=some c /\ Q (.str ⟨#[c]⟩) H
theorem Fz:Fy X (Mz X.K):=by
 intro value slice pins s σ H x y v u Q I rx ry h hs
 obtain ⟨p,xs,i,z,rfl,rfl,hq,he,q⟩:=h
 cases rx
 obtain ⟨t,rfl⟩:=ry
 obtain ⟨its,r,pl,hz⟩:=I.list hq
 obtain ⟨j,h1,h2,h3,h4,h5⟩:=sM he
 obtain ⟨w,ew,xu⟩:=r.get h2
 have hl:=r.length
 have hn:=nv
 have fin:EP X pins σ Q w s:=⟨z,H,I,xu,q⟩
 by_cases h0:0<=i
 ·have hj:i.toNat=j:=by
   rw [seqIndex_of h0 h5] at h1
   exact Option.some.inj h1
  exact item_listR pl.isList h0 (by omega) (by rw [hj]; simpa using ew) fin hs
 ·have hj:(i + (its.toArray.size:Int)).toNat=j:=by
   rw [seqIndex_neg (by omega) h4] at h1
   rw [List.size_toArray,<- hl]
   exact Option.some.inj h1
  exact subscriptTail_builtinR (x:=w) pl.isList.typeIs slot_list_getitem.lookup
   (wpAny_getItem_list_neg (Q:=fun r s'=>r=w /\ EP X pins σ Q r s') pl.isList (by omega) (by rw [List.size_toArray] <;> omega) (by omega) (by rw [hj]; simpa using ew) ⟨rfl,fin⟩) hs
theorem Jt:Fy X (MA X.K):=by
 intro value slice pins s σ H x y v u Q I rx ry h hs
 obtain ⟨p,xs,i,z,rfl,rfl,hq,he,q⟩:=h
 cases rx
 obtain ⟨t,rfl⟩:=ry
 obtain ⟨its,r,pl,hz⟩:=I.tuple hq
 obtain ⟨j,h1,h2,h3,h4,h5⟩:=sM he
 obtain ⟨w,ew,xu⟩:=r.get h2
 have hl:=r.length
 have hn:=nv
 have fin:EP X pins σ Q w s:=⟨z,H,I,xu,q⟩
 exact subscriptTail_builtinR (x:=w) pl.typeIs slot_tuple_getitem.lookup
  (getItem_tuple (j:=j) (Q:=fun r s'=>r=w /\ EP X pins σ Q r s') pl (by omega) (by omega) (by rw [List.size_toArray,<- hl]; exact h1) (by simpa using ew) ⟨rfl,fin⟩) hs
theorem Ju:Fy X MB:=by
 intro value slice pins s σ H x y v u Q I rx ry h hs
 obtain ⟨z,i,c,rfl,rfl,hz,he,q⟩:=h
 obtain ⟨t,rfl⟩:=rx
 obtain ⟨t',rfl⟩:=ry
 obtain ⟨j,h1,h2,h3,h4,h5⟩:=sM he
 have hl:z.cps.toList.length=z.length:=by simp [Str.length]
 rw [hl] at h1 h4 h5
 have hn:=nv
 exact tail_any (typeIs_str s z t) slot_str_getitem.lookup (getItem_str (c:=c) (by
  have e1:decide (i < -(2 ^ 63:Int))=false:=decide_eq_false (by omega)
  have e2:decide (i >=2 ^ 63)=false:=decide_eq_false (by omega)
  rw [e1,e2,Bool.or_false]) (by rw [h1]; simpa using h2) ⟨.str ⟨#[c]⟩,H,I.tok _,⟨_,rfl⟩,q⟩) hs
def WH (K:PySem.W.Frag):R2:=fun x y H Q=>Mz K x y H Q \/ MA K x y H Q \/ MB x y H Q
theorem Jv:Fy X (WH X.K):=Fz.or (Jt.or Ju)
theorem sN (lo hi:Option Int) (n:Nat):(sliceBounds lo hi none n).1=((HT.qX n 0 lo:Nat):Int) /\ (sliceBounds lo hi none n).2.1=((HT.qX n n hi:Nat):Int) /\ (sliceBounds lo hi none n).2.2=1:=by
 refine ⟨?_,?_,rfl⟩
 ·cases lo with
  | none=>simp [sliceBounds,HT.qX]
  | some i=>
    simp only [sliceBounds,HT.qX,Option.getD_none,show (1:Int) > 0 by decide,if_true]
    by_cases h:i < 0
    ·simp only [h,if_true] <;> omega
    ·simp only [h,if_false] <;> omega
 ·cases hi with
  | none=>simp [sliceBounds,HT.qX]
  | some i=>
    simp only [sliceBounds,HT.qX,Option.getD_none,show (1:Int) > 0 by decide,if_true]
    by_cases h:i < 0
    ·simp only [h,if_true] <;> omega
    ·simp only [h,if_false] <;> omega
theorem qZ (its:List Value) (lo hi:Option Int):slicePick its.toArray lo hi none=((its.drop (HT.qX its.length 0 lo)).take (HT.qX its.length its.length hi - HT.qX its.length 0 lo)).toArray:=by
 obtain ⟨h1,h2,h3⟩:=sN lo hi its.toArray.size
 unfold slicePick
 rw [h1,h2,h3]
 simp only [sliceRange_one,pick_run,List.size_toArray] <;> rfl
def Po (K:PySem.W.Frag):V->Option Int->Option Int->Hp->VK->Prop:=fun x lo hi H Q=>∃ a xs,x=.ref a /\ iC K H a xs /\ ∀ p,H p=none->Q (.ref p) (upd H p (.lst (Ce xs lo hi)))
theorem FA:WG X (Po X.K):=by
 intro pins s σ H x v vl vu lo hi sl Q I rx hs pl pu h
 obtain ⟨a,xs,rfl,hx,q⟩:=h
 cases rx
 obtain ⟨its,r,ht,hz⟩:=I.list hx
 have hlen:=r.length
 refine ⟨"list",_,slot_list_getitem.lookup,ht.isList.typeIs,?_⟩
 refine wpAny_getItem_list_slice ht.isList hs pl pu .none (by simp) ?_ (by rw [List.size_toArray] <;> omega)
 rw [qZ,<- hlen]
 refine ⟨.ref s.heap.objs.size,_,I.laid (t':=s.toks) (o:=.lst (Ce xs lo hi)) (fun b ob q=>Heap.get?_push_of_some _ q) (Nat.le_refl _) ?_,rfl,q _ (I.cg.fresh (Nat.le_refl _))⟩
 exact ⟨Nat.le_trans (u0 xs lo hi) hz,_,0,(r.drop (HT.qX xs.length 0 lo)).take (HT.qX xs.length xs.length hi - HT.qX xs.length 0 lo),Heap.get?_push_size _ rfl⟩
def jO:V->Bool
 | .h8=>true
 | .bl _=>true
 | .int _=>true
 | .str _=>true
 | _=>false
def EX:V->V->Bool
 | .h8,.h8=>true
 | .bl a,.bl b=>a == b
 | .bl a,.int b=>(if a then 1 else 0) == b
 | .int a,.bl b=>a == (if b then 1 else 0)
 | .int a,.int b=>a == b
 | .str a,.str b=>a == b
 | _,_=>false
theorem Jw {A:Around} {s:Shared} {y x:V} {u v:Value} (ry:RelV y u) (rx:RelV x v) (fy:jO y=true) (fx:jO x=true):SeqAt.EqAt A s u v (EX y x):=by
 cases y with
 | h8=>
   cases ry
   cases x with
   | h8=>cases rx; exact SeqAt.EqAt.same _
   | bl b=>cases rx; exact SeqAt.EqAt.none_bool b
   | int b=>obtain ⟨t,rfl⟩:=rx; exact SeqAt.EqAt.none_int b t
   | str b=>obtain ⟨t,rfl⟩:=rx; exact SeqAt.EqAt.none_str b t
   | _=>exact absurd (show false=true from fx) Bool.false_ne_true
 | bl a=>
   cases ry
   cases x with
   | h8=>cases rx; exact SeqAt.EqAt.bool_none a
   | bl b=>cases rx; exact SeqAt.EqAt.bool_bool a b
   | int b=>obtain ⟨t,rfl⟩:=rx; exact SeqAt.EqAt.bool_int a b t
   | str b=>obtain ⟨t,rfl⟩:=rx; exact SeqAt.EqAt.bool_str a b t
   | _=>exact absurd (show false=true from fx) Bool.false_ne_true
 | int a=>
   obtain ⟨t',rfl⟩:=ry
   cases x with
   | h8=>cases rx; exact SeqAt.EqAt.int_none a t'
   | bl b=>cases rx; exact SeqAt.EqAt.int_bool a t' b
   | int b=>obtain ⟨t,rfl⟩:=rx; exact SeqAt.EqAt.int_int a t' b t
   | str b=>obtain ⟨t,rfl⟩:=rx; exact SeqAt.EqAt.int_str a t' b t
   | _=>exact absurd (show false=true from fx) Bool.false_ne_true
 | str a=>
   obtain ⟨t',rfl⟩:=ry
   cases x with
   | h8=>cases rx; exact SeqAt.EqAt.str_none a t'
   | bl b=>cases rx; exact SeqAt.EqAt.str_bool a t' b
   | int b=>obtain ⟨t,rfl⟩:=rx; exact SeqAt.EqAt.str_int a t' b t
   | str b=>obtain ⟨t,rfl⟩:=rx; exact SeqAt.EqAt.str_str a t' b t
   | _=>exact absurd (show false=true from fx) Bool.false_ne_true
 | _=>exact absurd (show false=true from fy) Bool.false_ne_true
def xG (x:V) (u:Value):Bool:=match u with
 | .none=>EX .h8 x
 | .bool b=>EX (.bl b) x
 | .int i _=>EX (.int i) x
 | .str z _=>EX (.str z) x
 | _=>false
theorem Cf {x y:V} {u:Value} (r:RelV y u) (f:jO y=true):xG x u=EX y x:=by
 cases y with
 | h8=>cases r; rfl
 | bl b=>cases r; rfl
 | int i=>obtain ⟨t,rfl⟩:=r; rfl
 | str z=>obtain ⟨t,rfl⟩:=r; rfl
 | _=>exact absurd (show false=true from f) Bool.false_ne_true
theorem mH {x:V}:∀ {xs:List V} {us:List Value},bw xs us->xs.all jO=true->us.any (xG x)=xs.any fun y=>EX y x
 | _,_,.nil,_=>rfl
 | y :: xs,u :: us,.cons r t,f=>by
   rw [List.all_cons,Bool.and_eq_true] at f
   rw [List.any_cons,List.any_cons,Cf r f.1,mH t f.2]
theorem j5 {A:Around} {s:Shared} {x:V} {v:Value} (rx:RelV x v) (fx:jO x=true):∀ {xs:List V} {us:List Value},bw xs us->xs.all jO=true->∀ u∈us,SeqAt.EqAt A s u v (xG x u)
 | _,_,.nil,_=>fun u hu=>by cases hu
 | y :: xs,u :: us,.cons r t,f=>fun u' hu=>by
   rw [List.all_cons,Bool.and_eq_true] at f
   rcases List.mem_cons.mp hu with rfl | hu
   ·rw [Cf r f.1]; exact Jw r rx f.1 fx
   ·exact j5 rx fx t f.2 u' hu
def Jx (x:V) (xs:List V):Bool:=xs.any fun y=>EX y x
def LG (K:PySem.W.Frag) (neg:Bool):R2:=fun x y H Q=>∃ p xs,y=.ref p /\ (iC K H p xs \/ jn K H p xs) /\ jO x=true /\ xs.all jO=true /\ Q (.bl (if neg then !Jx x xs else Jx x xs)) H
theorem AM:iV X (compareOp .In) (LG X.K false):=by
 intro pins s σ H x y v u Q I rx ry h
 obtain ⟨p,xs,rfl,hq,fx,fs,q⟩:=h
 cases ry
 rcases hq with hq | hq
 ·obtain ⟨its,r,pl,hz⟩:=I.list hq
  refine SeqAt.in_listAt (xG x) pl.isList (fun w hw=>j5 rx fx r fs w (by simpa using hw)) ⟨.bl _,H,I,rfl,?_⟩
  rw [show its.toArray.any (xG x)=its.any (xG x) by simp,mH r fs]
  exact q
 ·obtain ⟨its,r,pl,hz⟩:=I.tuple hq
  refine SeqAt.in_tupleAt (xG x) pl (fun w hw=>j5 rx fx r fs w (by simpa using hw)) ⟨.bl _,H,I,rfl,?_⟩
  rw [show its.toArray.any (xG x)=its.any (xG x) by simp,mH r fs]
  exact q
theorem sO:iV X (compareOp .NotIn) (LG X.K true):=by
 intro pins s σ H x y v u Q I rx ry h
 obtain ⟨p,xs,rfl,hq,fx,fs,q⟩:=h
 cases ry
 rcases hq with hq | hq
 ·obtain ⟨its,r,pl,hz⟩:=I.list hq
  refine SeqAt.notIn_listAt (xG x) pl.isList (fun w hw=>j5 rx fx r fs w (by simpa using hw)) ⟨.bl _,H,I,rfl,?_⟩
  rw [show its.toArray.any (xG x)=its.any (xG x) by simp,mH r fs]
  exact q
 ·obtain ⟨its,r,pl,hz⟩:=I.tuple hq
  refine SeqAt.notIn_tupleAt (xG x) pl (fun w hw=>j5 rx fx r fs w (by simpa using hw)) ⟨.bl _,H,I,rfl,?_⟩
  rw [show its.toArray.any (xG x)=its.any (xG x) by simp,mH r fs]
  exact q
theorem sP:eX X (.builtin "len") (fun xs H Q=>∃ p ys,xs=[.ref p] /\ (iC X.K H p ys \/ jn X.K H p ys) /\ Q (.int ys.length) H):=by
 intro pins s σ H xs us Q I r h
 obtain ⟨p,ys,rfl,hq,q⟩:=h
 obtain ⟨u,rfl,rx⟩:=vals1 r
 cases rx
 have hn:=nv
 rcases hq with hq | hq
 ·obtain ⟨its,r',pl,hz⟩:=I.list hq
  have hlen:=r'.length
  exact Calls.call_len_list pl.isList (by simp only [List.size_toArray] <;> omega) ⟨.int ys.length,H,I.tok _,⟨s.toks + 1,by rw [List.size_toArray,hlen]⟩,q⟩
 ·obtain ⟨its,r',pl,hz⟩:=I.tuple hq
  have hlen:=r'.length
  exact len_tuple pl (by simp only [List.size_toArray] <;> omega) ⟨.int ys.length,H,I.tok _,⟨s.toks + 1,by rw [List.size_toArray,hlen]⟩,q⟩
theorem sQ:eX X (.builtin "len") (fun xs H Q=>∃ z,xs=[.str z] /\ z.length<=sizeLine /\ Q (.int z.length) H):=by
 intro pins s σ H xs us Q I r h
 obtain ⟨z,rfl,hz,q⟩:=h
 obtain ⟨u,rfl,t,rfl⟩:=vals1 r
 have hn:=nv
 exact len_str (by omega) ⟨.int z.length,H,I.tok _,⟨_,rfl⟩,q⟩
theorem eX.or {f:Value} {r r':List V->Hp->VK->Prop} (h:eX X f r) (h':eX X f r'):eX X f (fun xs H Q=>r xs H Q \/ r' xs H Q):=by
 intro pins s σ H xs us Q I rs q
 rcases q with q | q
 ·exact h pins s σ H xs us Q I rs q
 ·exact h' pins s σ H xs us Q I rs q
theorem mI:eX X (.type "list") (fun xs H Q=>∃ p ys,xs=[.ref p] /\ (iC X.K H p ys \/ jn X.K H p ys) /\ ∀ l,H l=none->Q (.ref l) (upd H l (.lst ys))):=by
 intro pins s σ H xs us Q I r h
 obtain ⟨p,ys,rfl,hq,q⟩:=h
 obtain ⟨u,rfl,rx⟩:=vals1 r
 cases rx
 have fin:∀ (its:List Value),bw ys its->ys.length<=sizeLine->∀ (h':Heap) (c':Nat),(∀ b o',s.heap.get? b=some o'->h'.get? b=some o')->
   h'.get? s.heap.objs.size=some { cls:=.type "list",dict:=none,data:=.seq its.toArray c',slots:=#[] }->EP X pins σ Q (.ref s.heap.objs.size) { s with heap:=h' }:=fun its r' hz h' c' kp e=>
  ⟨.ref s.heap.objs.size,_,I.laid (t':=s.toks) kp (Nat.le_refl _) (show cy X.prog X.w _ h' _ (.lst ys) from ⟨hz,its,c',r',e⟩),rfl,q _ (I.cg.fresh (Nat.le_refl _))⟩
 rcases hq with hq | hq
 ·obtain ⟨its,r',pl,hz⟩:=I.list hq
  have hlen:=r'.length
  obtain ⟨o,ho,hc,n,hd⟩:=pl.isList
  exact call_list_seq p (.inl rfl) ho hc hd (fun h' c' kp e=>fin its r' hz h' c' kp e) (by simp only [List.size_toArray] <;> omega)
 ·obtain ⟨its,r',pl,hz⟩:=I.tuple hq
  have hlen:=r'.length
  obtain ⟨o,ho,hc,n,hd⟩:=pl
  exact call_list_seq p (.inr rfl) ho hc hd (fun h' c' kp e=>fin its r' hz h' c' kp e) (by simp only [List.size_toArray] <;> omega)
theorem lq:eX X (.type "tuple") (fun xs H Q=>∃ p ys,xs=[.ref p] /\ ((iC X.K H p ys /\ ∀ l,H l=none->Q (.ref l) (upd H l (.tup ys))) \/ (jn X.K H p ys /\ Q (.ref p) H))):=by
 intro pins s σ H xs us Q I r h
 obtain ⟨p,ys,rfl,h⟩:=h
 obtain ⟨u,rfl,rx⟩:=vals1 r
 cases rx
 rcases h with ⟨hq,q⟩ | ⟨hq,q⟩
 ·obtain ⟨its,r',pl,hz⟩:=I.list hq
  have hlen:=r'.length
  refine call_tuple_list pl.isList (fun h' kp=>?_) (by simp only [List.size_toArray] <;> omega)
  have I1:Inv X pins σ H { s with heap:=h' }:=I.kept (t':=s.toks) kp
  have I2:Inv X pins σ (upd H h'.objs.size (.tup ys)) { s with heap:=h'.push { cls:=.type "tuple",data:=.seq its.toArray } }:=
   I1.laid (t':=s.toks) (fun b o e=>Heap.get?_push_of_some _ e) (Nat.le_refl _) (show cy X.prog X.w _ _ _ (.tup ys) from ⟨hz,its,r',IsTup.new _ _⟩)
  exact ⟨.ref h'.objs.size,_,I2,rfl,q _ (I1.cg.fresh (Nat.le_refl _))⟩
 ·obtain ⟨its,r',pl,hz⟩:=I.tuple hq
  exact call_tuple_same pl ⟨.ref p,H,I,rfl,q⟩
def Pp (K:PySem.W.Frag) (T:String) (x:V) (H:Hp):Prop:=match x with
 | .str _=>T="str"
 | .int _=>T="int"
 | .ref p=>(T="list" /\ ∃ xs,iC K H p xs) \/ (T="tuple" /\ ∃ o,K.lookup p=some o /\ o.cls=.type "tuple" /\ o.dict=none) \/
   (T="dict" /\ ((∃ aQ,H p=some (.dK aQ)) \/ ∃ aQ,H p=some (.dT aQ))) \/ (T="set" /\ ∃ S n,H p=some (.set S n))
 | _=>False
theorem Cg {pins:List (Addr×Obj)} {σ:St} {H:Hp} {s:Shared} {T:String} {x:V} {v:Value} (I:Inv X pins σ H s) (r:RelV x v) (ty:Pp X.K T x H):
  s.TypeIs v T /\ ∀ a,v=.ref a->∃ ob,s.heap.get? a=some ob /\ ob.dict=none:=by
 cases x with
 | str z=>
   obtain ⟨t,rfl⟩:=r
   cases (show T="str" from ty)
   exact ⟨typeIs_str s z t,fun _ e=>nomatch e⟩
 | int i=>
   obtain ⟨t,rfl⟩:=r
   cases (show T="int" from ty)
   exact ⟨typeIs_int s i t,fun _ e=>nomatch e⟩
 | ref p=>
   cases r
   rcases ty with ⟨rfl,xs,hq⟩ | ⟨rfl,o,hk,hc,hd⟩ | ⟨rfl,hk⟩ | ⟨rfl,S,n,hk⟩
   ·obtain ⟨its,_,pl,_⟩:=I.list hq
    refine ⟨pl.isList.typeIs,fun a e=>?_⟩
    cases e
    obtain ⟨o,n,e,c,hd,_⟩:=pl
    exact ⟨o,e,hd⟩
   ·refine ⟨⟨o,I.qM p o hk,hc⟩,fun a e=>?_⟩
    cases e
    exact ⟨o,I.qM _ o hk,hd⟩
   ·have z:∃ o,s.heap.get? p=some o /\ o.ExactDict:=by
     rcases hk with ⟨aQ,hk⟩ | ⟨aQ,hk⟩
     ·obtain ⟨_,_,_,_,o,_,_,e,ex,_⟩:=I.cg p _ hk
      exact ⟨o,e,ex⟩
     ·obtain ⟨_,_,_,_,o,_,_,e,ex,_⟩:=I.cg p _ hk
      exact ⟨o,e,ex⟩
    obtain ⟨o,e,ex⟩:=z
    refine ⟨⟨o,e,ex.1⟩,fun a e2=>?_⟩
    cases e2
    exact ⟨o,e,ex.2.1⟩
   ·obtain ⟨o,_,_,_,e,ex,_⟩:=I.cg p _ hk
    refine ⟨⟨o,e,ex.1⟩,fun a e2=>?_⟩
    cases e2
    exact ⟨o,e,ex.2.1⟩
 | _=>exact False.elim ty
def MC (K:PySem.W.Frag) (T:String) (r:V->List V->Hp->VK->Prop) (to:TE):TE:=fun σ H Q=>to σ H fun x H1=>Pp K T x H1 /\ r x [] H1 Q
def Pq (K:PySem.W.Frag) (T:String) (r:V->List V->Hp->VK->Prop) (to:TE) (t:TA):TE:=fun σ H Q=>to σ H fun x H1=>Pp K T x H1 /\ t σ H1 fun xs H2=>r x xs H2 Q
variable {o e:Expr} {es:List Expr} {to:TE} {t:TA} {name:Str} {apos gR:Pos} {T id:String} {r:V->List V->Hp->VK->Prop}
theorem Jy (pa:PlainAttrs T) (slot:Slot T name id) (Pr:typeOf (.builtin id)=pure (.type "method_descriptor")) (hm:Ov X id r) (ho:PE X o to)
  (pE:attributeBase o name X.env (eval o X.env)=eval o X.env:=by rfl) (pF:(apos.endLine == gR.line)=true:=by rfl):PE X (.Call (.Attribute o name apos) [] [] gR) (MC X.K T r to):=by
 intro pins s σ H Q I h
 refine wpAny_Call_method0_late pE pF (dZ (ho pins s σ H _ I h) fun v s1 ⟨x,H1,I1,r1,ty,q1⟩=>?_)
 obtain ⟨h1,h2⟩:=Cg I1 r1 ty
 exact ⟨T,id,pa,slot,Pr,h1,h2,Calls.callWith_builtin rfl (PySem.evalArgs_none (hm pins s1 σ H1 x [] v [] Q I1 r1 .nil q1))⟩
theorem lr (pa:PlainAttrs T) (slot:Slot T name id) (Pr:typeOf (.builtin id)=pure (.type "method_descriptor")) (hm:Ov X id r) (ho:PE X o to) (ha:PA X (e :: es) t)
  (pE:attributeBase o name X.env (eval o X.env)=eval o X.env:=by rfl)
  (Pt:((backTo gR (starEach (e :: es) X.env)).all (fun x=> !x.1) && (backToKw gR (keywordEach [] X.env)).all (fun x=>x.1.isSome)
   && decide ((e :: es).length + ([]:List Keyword).length + (if ([]:List Keyword).isEmpty then 0 else 1) < 30))=true:=by rfl)
  (pF:(apos.endLine == gR.line)=true:=by rfl) (hs:starEach (e :: es) X.env=(false,eval e X.env) :: starEach es X.env:=by rfl) (Jz:(backTo gR (starEach es X.env)).any (·.1)=false:=by rfl):
  PE X (.Call (.Attribute o name apos) (e :: es) [] gR) (Pq X.K T r to t):=by
 intro pins s σ H Q I h
 refine wpAny_Call_method_late pE Pt pF rfl (dZ (ho pins s σ H _ I h) fun v s1 ⟨x,H1,I1,r1,ty,q1⟩=>?_)
 obtain ⟨h1,h2⟩:=Cg I1 r1 ty
 refine ⟨T,id,pa,slot,Pr,h1,h2,?_⟩
 have hA:=ha gR pins s1 σ H1 _ I1 q1
 rw [hs] at hA ⊢
 refine Calls.callWith_builtin (by show (false || (backTo gR (starEach es X.env)).any (·.1))=false; rw [Jz] <;> rfl) (Calls.evalArgs_plain ?_)
 exact dZ hA fun us s2 ⟨vs,H2,I2,r2,q2⟩=>hm pins s2 σ H2 x vs v us Q I2 r1 r2 q2
/- xs.append(e),list.index on a module's tuple .. are Ov facts of 06m -/
end
def WI (X:Cx) (id:String) (r:V->List V->Hp->VK->Prop):Prop:=
 ∀ (pins:List (Addr×Obj)) (s:Shared) (σ:St) (H:Hp) (x:V) (xs:List V) (v:Value) (us:List Value) (Q:VK),Inv X pins σ H s->RelV x v->bw xs us->r x xs H Q->
   wpAny (model X.prog X.w) X.A (call (.builtin id) (v :: us)) (EP X pins σ Q) X.xe s
theorem bw.one:∀ {x:V} {us:List Value},bw [x] us->∃ u,us=[u] /\ RelV x u
 | _,_,.cons r .nil=>⟨_,rfl,r⟩
section
variable {X:Cx} {pins:List (Addr×Obj)} {σ:St} {H:Hp} {s:Shared} {l b:Addr} {xs ys zs:List V}
theorem Inv.MD {its its':List Value} {n:Nat} {f:Array Value->Array Value} {t':Nat} (I:Inv X pins σ H s) (hH:H l=some (.lst xs))
  (e:s.heap.get? l=some { cls:=.type "list",data:=.seq its.toArray n }) (hf:f its.toArray=its'.toArray) (hv:bw ys its') (hz:ys.length<=sizeLine):
  Inv X pins σ (upd H l (.lst ys)) { s with heap:=s.heap.update l (Obj.mapSeq f),toks:=t' }:=by
 have q:=PySem.IsL.update e f
 rw [hf] at q
 refine I.write (x:=l) (e:=l) (by rw [hH]; exact trivial) (.inl rfl) (fun b' u hb hu=>(Heap.get?_update_other s.heap (Obj.mapSeq f) (Ne.symm hb)).trans hu) ⟨_,q⟩ ?_
 exact ⟨hz,its',_,hv,q⟩
theorem Inv.Pu {its:List Value} {t':Nat} (I:Inv X pins σ H s) (hv:bw ys its) (hz:ys.length<=sizeLine):
  Inv X pins σ (upd H s.heap.objs.size (.lst ys)) { s with heap:=s.heap.push { cls:=.type "list",data:=.seq its.toArray },toks:=t' }:=
 I.laid (fun _ _ q=>Heap.get?_push_of_some _ q) (Nat.le_refl _) ⟨hz,its,0,hv,Heap.get?_push_size _ rfl⟩
theorem Inv.fresh (I:Inv X pins σ H s):H s.heap.objs.size=none:=I.cg.fresh (Nat.le_refl _)
theorem Inv.JA (I:Inv X pins σ H s) (hH:H l=some (.lst xs)):xs.length<=sizeLine /\ ∃ (its:List Value) (n:Nat),bw xs its /\ xs.length=its.length /\ s.heap.get? l=some { cls:=.type "list",data:=.seq its.toArray n }:=by
 obtain ⟨z,its,n,r,e⟩:=I.cg l _ hH
 exact ⟨z,its,n,r,r.length,e⟩
theorem Ci {n:Nat} (h:n<=sizeLine):Builtin.List.listTooLong n=false:=by
 unfold Builtin.List.listTooLong
 exact decide_eq_false (by omega)
end
section
variable {X:Cx}
def zt:V->List V->Hp->VK->Prop:=fun x vs H Q=>∃ l xs y,x=.ref l /\ vs=[y] /\ H l=some (.lst xs) /\ xs.length < sizeLine /\ Q .h8 (upd H l (.lst (xs ++ [y])))
theorem gn:WI X "list.append" zt:=by
 intro pins s σ H x vs v us Q I rx rv h
 obtain ⟨l,xs,y,rfl,rfl,hH,hz,q⟩:=h
 cases rx
 obtain ⟨u,rfl,ru⟩:=rv.one
 obtain ⟨z,its,n,r,hl,e⟩:=I.JA hH
 refine call_meets F.slot_list_append ⟨_,e,rfl⟩ F.entry_list_append (F.args_list_append_2 _ _) (PySem.list_append l its.toArray n u (by rw [List.size_toArray]; omega)) ⟨e,?_⟩
 refine ⟨.h8,_,I.MD (its':=its ++ [u]) hH e (by simp) (r.append (.cons ru .nil)) ?_,rfl,q⟩
 rw [List.length_append,List.length_singleton]
 omega
def zu:V->List V->Hp->VK->Prop:=fun x vs H Q=>∃ l b xs zs,x=.ref l /\ vs=[.ref b] /\ H l=some (.lst xs) /\ H b=some (.lst zs) /\ xs.length + zs.length<=sizeLine /\ Q .h8 (upd H l (.lst (xs ++ zs)))
theorem nA:WI X "list.extend" zu:=by
 intro pins s σ H x vs v us Q I rx rv h
 obtain ⟨l,b,xs,zs,rfl,rfl,hH,hB,hz,q⟩:=h
 cases rx
 obtain ⟨u,rfl,ru⟩:=rv.one
 cases ru
 obtain ⟨z,its,n,r,hl,e⟩:=I.JA hH
 obtain ⟨z2,qY,n2,r2,JB,e2⟩:=I.JA hB
 have hsz:its.toArray.size + qY.toArray.size<=sizeLine:=by rw [List.size_toArray,List.size_toArray]; omega
 have ME:¬ (!its.toArray.isEmpty && Builtin.List.listTooLong (its.toArray.size + qY.toArray.size))=true:=by
  rw [Ci hsz,Bool.and_false]
  exact Bool.false_ne_true
 refine call_meets F.slot_list_extend ⟨_,e,rfl⟩ F.entry_list_extend (F.args_list_extend_2 _ _)
  (AutoSeq1.list_extend_list_list_0 l its.toArray n b qY.toArray n2 ME (by rw [List.size_toArray]; omega) (by omega)) ⟨e,e2,?_⟩
 refine ⟨.h8,_,I.MD (its':=its ++ qY) hH e (by simp) (r.append r2) ?_,rfl,q⟩
 rw [List.length_append]
 omega
end
section
variable {prog:Program} {w:World} {A:Around} {E:Value->Shared->Prop} {s:Shared}
end
section
variable {X:Cx}
end
end L2
namespace WJ
open PySem PySem.W PySem.Calls PyProof.Rows
theorem oK {P:Params} {h:Heap}:∀ (ns:List Int) (vs:List Value),WellAll P h vs (ns.map WData.int)->IntsAre vs ns:=by
 intro ns
 induction ns with
 | nil=>
   intro vs w
   rw [List.map_nil] at w
   cases w
   exact .nil
 | cons n ns ih=>
   intro vs w
   rw [List.map_cons] at w
   cases w with
   | cons a b=>
     cases a
     exact .cons _ _ (ih _ b)
theorem AN {l:OpenLaw} {n:Nat} (hn:l.most=some n) {P:Params} {h:Heap} {args:List WData} {vals:List Value}
  (FC:l.row.toRowW.claim.pre args=true) (Pw:WellAll P h vals args):
  ∃ a vs ns,vals=[Value.ref a] /\ args=[WData.list (ns.map WData.int)] /\ h.get? a=some { cls:=.type "list",data:=.seq vs.toArray } /\ IntsAre vs ns /\ ns.length<=n:=by
 have hsh:WShape.hasAll [] args [.list .int]=true:=(pre_splitW FC).1
 have hc:l.pre.holds [] { args:=args }=true:=(pre_splitW FC).2
 obtain ⟨d,r,rfl,h1,h2⟩:=hasAllW_cons hsh
 obtain rfl:=hasAllW_nil h2
 obtain ⟨xs,rfl,h3⟩:=hasW_list h1
 obtain ⟨ns,rfl⟩:=items_int h3
 have hlen:ns.length<=n:=by
  unfold OpenLaw.pre at hc
  have h4:(WTm.not (.lt (.lit (.int (n:Int))) (.len (.arg 0)))).holds [] { args:=[.list (ns.map .int)] }=true:=by
   have h4:=(holds_andW hc).1
   rw [hn] at h4
   exact h4
  have h5:=condW_of h4 (w_not (w_lt w_lit (w_len_list (w_arg rfl))))
  rw [List.length_map] at h5
  refine Nat.le_of_not_lt fun q=>?_
  have q':(n:Int) < ((ns.length:Nat):Int):=by omega
  first
   | (rw [decide_eq_true q'] at h5; exact absurd h5 (by decide))
   | (simp at h5; omega)
 cases Pw with
 | cons w1 w2=>
   cases w2
   cases w1 with
   | list ho Px=>exact ⟨_,_,ns,rfl,rfl,ho,oK ns _ Px,hlen⟩
theorem AO (l:OpenLaw) (args:List WData):l.row.toRowW.claim.post args (.bool true) args=true:=
 postW_of (r:=l.row.toRowW) (X:=(true == true))
  (show WShape.has [] (.bool true) .bool=true by first | rfl | decide | simp [WShape.has,WShape.arms,WShape.armsAll])
  (show (WTm.eq .res (.lit (.bool true))).value [] { args:=args,res:=some (.bool true),after:=args }=some (.bool (true == true)) from w_eq_bool (w_res rfl) w_lit) rfl
theorem u4 {l:OpenLaw} {n:Nat} {q:Program} {loose:List Str} {XP:(Str->Option Value)->Heap->Prop} {YP:World->Heap->Prop} {d:DefRec}
  (hn:l.most=some n) (MF:d.params.defaults=[])
  (call:∀ (w:World) (fS bA:Shared) (mg mb:Str->Option Value) (fa:Addr) (o:Obj) (pm cd doc:Value) (a:Addr) (vs:List Value) (ns:List Int),
   Ground q loose [] XP w fS mg mb bA.heap->YP w bA.heap->
   bA.heap.get? fa=some o->o.data=.func (docDef d.name d.params d.body d.scope pm cd doc)->bA.heap.CodeRec cd d.name->mg d.name=some (.ref fa)->
   bA.heap.get? a=some { cls:=.type "list",data:=.seq vs.toArray }->IntsAre vs ns->ns.length<=n->bA.gens=#[]->
   codeAny (model l.prog w) callerA (.call (.ref fa) ⟨[.ref a],[]⟩) (fun r s'=>r=.ok (.ret (.bool true)) /\ OldK bA.heap s'.heap /\ s'.os=bA.os /\ AllBare s'.gens) bA):
  WalkO q loose XP YP l.row.toRowW d [] (fun f vs=>PySem.call f vs):=by
 intro w fS bA mg mb G Y fa o pm cd doc dV kV ho hd qT hD MG hg args vals as FC X8 hrd Pw Ow
 obtain rfl:dV=.none:=Dflts.none hD MF
 obtain rfl:kV=.none:=Dflts.noKw hD
 obtain ⟨a,vs,ns,rfl,rfl,Cj,hints,hlen⟩:=AN hn FC Pw
 refine enter_call (codeAny_mono (call w fS bA mg mb fa o pm cd doc a vs ns G Y ho (fd_plain hd) qT MG Cj hints hlen hg) fun r s' hq=>?_)
 obtain ⟨rfl,h2,h3,h4⟩:=hq
 exact ⟨.inl ⟨.bool true,.bool true,[],rfl,fun _=>rfl,.bool true,AO l _,fun _=>⟨List.Pairwise.nil,fun _ hm=>(nomatch hm)⟩⟩,h2,h3,h4⟩
section
variable {prog:Program} {w:World} {A:Around} {E:Value->Shared->Prop} {s:Shared} {K:Frag}
end
end WJ
namespace L2
open PySem PySem.Spec PyProof.Rows
theorem rX:∀ {vs:List Value} {ns:List Int},IntsAre vs ns->bw (ns.map V.int) vs
 | _,_,.nil=>.nil
 | _,_,.cons n t h=>.cons ⟨t,rfl⟩ (rX h)
def xk (K:PySem.W.Frag) (H:Hp) (a:Addr) (xs:List V):Prop:=
 Rd H a (.lst xs) \/ ∃ (its:List Value) (n:Nat),K.lookup a=some { cls:=.type "list",data:=.seq its.toArray n } /\ its.length<=sizeLine /\ bw xs its
abbrev oX:EW:=fun _ _ _ _ _ _=>False
abbrev E0:XK:=fun _ _ _=>False
theorem MH {X:Cx}:xF oX X E0:=fun _ _ _ _ _ _ _ h=>h.elim
structure Ck (K:PySem.W.Frag) (x qual:Str) (st:Stmt) (f:Addr) (fd:FuncData):Prop where
 ex:∃ (oc:Value) (od:Option Addr) (kV doc pm:Value) (an:Option Addr) (cR ct:Value) (Cc:Array (Option Value)),
  fd=PySem.W.fnOf x qual (jm st) (eI st) (aq st) .none kV doc pm an cR ct /\ K.lookup f=some ⟨oc,od,.func fd,Cc⟩ /\ PySem.W.codeIn K cR qual=true
 kp:PySem.W.keepIn K (.ref f)=true
section
variable {P:Program} {w:World} {K:PySem.W.Frag} {mg:Str->Option Value} {base:Heap}
theorem Ck.ok {x qual:Str} {st:Stmt} {f:Addr} {fd:FuncData} {N ps:List Str} {k:Nat} {sp:Sp} (F:Ck K x qual st f fd) (S:aI N ps (aq st)) (len:∀ vs H Q E,sp vs H Q E->vs.length=ps.length)
  (j4:∀ (cR:Value) (A:Around) (outer:List Env) (s:Shared) (H:Hp) (vs:List V) (Q:VK) (E:XK),c8 k (A.deeper (envOfC qual (aq st) s.heap.objs.size f cR))->sp vs H Q E->
   ∃ t,mE (pB oX P w K mg base N qual (aq st) f cR A outer s H E).EU (eI st) t /\ t { nx:=fun _ H'=>Q .h8 H',rt:=Q } (start N vs) H):lF P w K mg base oX (k + 1) f fd ps sp:=by
 obtain ⟨oc,od,kV,doc,pm,an,cR,ct,Cc,rfl,lk,qT⟩:=F.ex
 refine HQ lk qT S len fun A outer s H vs Q E hr zq=>?_
 obtain ⟨t,h,q⟩:=j4 cR A outer s H vs Q E hr zq
 exact ⟨t,h.EU,q⟩
theorem Ck.binds {x qual:Str} {st:Stmt} {f:Addr} {fd:FuncData} {ps:List Str} (F:Ck K x qual st f fd)
  (h:∀ (kV doc pm:Value) (an:Option Addr) (cR ct:Value) (us:List Value),us.length=ps.length->bindArgs (PySem.W.fnOf x qual (jm st) (eI st) (aq st) .none kV doc pm an cR ct) ⟨us,[]⟩=pure (ps.zip us)):Binds K fd ps []:=by
 obtain ⟨oc,od,kV,doc,pm,an,cR,ct,Cc,rfl,lk,qT⟩:=F.ex
 exact .all (h kV doc pm an cR ct)
theorem aw {x qual:Str} {st:Stmt} {f:Addr} {oc:Value} {od an:Option Addr} {Cc:Array (Option Value)} {kV doc pm cR ct:Value} (l:K.lookup f=some ⟨oc,od,.func (PySem.W.fnOf x qual (jm st) (eI st) (aq st) .none kV doc pm an cR ct),Cc⟩)
  (c:PySem.W.codeIn K cR qual=true) (k:PySem.W.keepIn K (.ref f)=true):Ck K x qual st f (PySem.W.fnOf x qual (jm st) (eI st) (aq st) .none kV doc pm an cR ct):=⟨⟨oc,od,kV,doc,pm,an,cR,ct,Cc,rfl,l,c⟩,k⟩
end
def MI:Option NameKind->Bool
 | some .local=>true
 | some .cell=>true
 | some .free=>true
 | _=>false
theorem JC {sc:Scope} {x:Str} (h:MI (sc.names.lookup x)=true):L8 sc x:=by
 unfold L8
 cases e:sc.names.lookup x with
 | none=>rw [e] at h; cases h
 | some k=>
   rw [e] at h
   cases k <;> first | exact .inl rfl | exact .inr (.inl rfl) | exact .inr (.inr rfl) | cases h
section
variable {X:Cx}
theorem pv (i:Nat) {x:Str} {pos:Pos} (hN:X.N[i]?=some x:=by rfl) (hv:MI (X.env.scope.names.lookup x)=true:=by rfl) (hd:(x == ("__debug__":Str))=false:=by decide)
  (qT:(x == ("__classdict__":Str))=false:=by decide):PE X (.Name x pos) (uX i):=IV hN (JC hv) hd qT
end
def aH (H H':Hp):Prop:=∀ b o,H b=some o->H' b=some o
theorem aH.refl (H:Hp):aH H H:=fun _ _ h=>h
theorem aH.trans {H H1 H2:Hp} (a:aH H H1) (b:aH H1 H2):aH H H2:=fun c o h=>b c o (a c o h)
theorem aH.free {H H':Hp} (e:aH H H') {l:Addr} (h:H' l=Option.none):H l=Option.none:=by
 cases q:H l with
 | none=>rfl
 | some o=>
   rw [e l o q] at h
   cases h
section
variable {κ:Type} [DecidableEq κ]
def mJ (aQ:List (κ×V)) (k:κ):Option V:=(aQ.find? fun kv=>decide (kv.1=k)).map (·.2)
def putK (aQ:List (κ×V)) (k:κ) (v:V):List (κ×V):=
 if (aQ.any fun kv=>decide (kv.1=k))=true then aQ.map (fun kv=>if kv.1=k then (kv.1,v) else kv) else aQ ++ [(k,v)]
theorem mK {p:κ×V} {r:List (κ×V)} {k:κ} (e:p.1=k):mJ (p :: r) k=some p.2:=by simp [mJ,List.find?_cons,e]
theorem mL {p:κ×V} {r:List (κ×V)} {k:κ} (e:¬ p.1=k):mJ (p :: r) k=mJ r k:=by simp [mJ,List.find?_cons,e]
theorem pG (k:κ):∀ aQ:List (κ×V),(aQ.any fun kv=>decide (kv.1=k))=(mJ aQ k).isSome
 | []=>rfl
 | p :: r=>by
   rw [List.any_cons]
   by_cases e:p.1=k
   ·simp only [mK e,decide_eq_true e,Bool.true_or,Option.isSome_some]
   ·rw [mL e,decide_eq_false e,Bool.false_or]; exact pG k r
theorem ou (aQ:List (κ×V)) (k:κ) (v:V):(putK aQ k v).length<=aQ.length + 1:=by
 unfold putK
 split
 ·rw [List.length_map]; omega
 ·rw [List.length_append,List.length_cons,List.length_nil]; omega
theorem nr.AQ {o:Option V} {u:Option Value} (r:nr o u):o.isSome=u.isSome:=by
 cases o with
 | none=>cases u with
   | none=>rfl
   | some _=>exact (show False from r).elim
 | some _=>cases u with
   | none=>exact (show False from r).elim
   | some _=>rfl
theorem nr.getD {o:Option V} {u:Option Value} {d:V} {d':Value} (r:nr o u) (rd:RelV d d'):RelV (o.getD d) (u.getD d'):=by
 cases o with
 | none=>cases u with
   | none=>exact rd
   | some _=>exact (show False from r).elim
 | some _=>cases u with
   | none=>exact (show False from r).elim
   | some _=>exact r
theorem KV.val {aQ:List (κ×V)} {vs:List (κ×Value)} (r:KV aQ vs) (k:κ):nr (mJ aQ k) (valueAt vs k):=by
 unfold KV at r
 induction r with
 | nil=>exact True.intro
 | @cons p q ps qs h t ih=>
   obtain ⟨h1,h2⟩:=h
   by_cases e:p.1=k
   ·have e':q.1=k:=h1.symm.trans e
    have b:valueAt (q :: qs) k=some q.2:=by simp [valueAt,List.find?_cons,e']
    rw [mK e,b]; exact h2
   ·have e':¬ q.1=k:=fun z=>e (h1.trans z)
    have b:valueAt (q :: qs) k=valueAt qs k:=by simp [valueAt,List.find?_cons,e']
    rw [mL e,b]; exact ih
theorem KV.any {aQ:List (κ×V)} {vs:List (κ×Value)} (r:KV aQ vs) (k:κ):(aQ.any fun kv=>decide (kv.1=k))=vs.any fun kv=>decide (kv.1=k):=by
 unfold KV at r
 induction r with
 | nil=>rfl
 | cons h t ih=>rw [List.any_cons,List.any_cons,ih,h.1]
theorem KV.JD {aQ:List (κ×V)} {vs:List (κ×Value)} (r:KV aQ vs) (k:κ) {y:V} {u:Value} (ry:RelV y u):
  KV (aQ.map fun kv=>if kv.1=k then (kv.1,y) else kv) (vs.map fun kv=>if kv.1=k then (kv.1,u) else kv):=by
 unfold KV at r ⊢
 induction r with
 | nil=>exact .nil
 | @cons p q ps qs h t ih=>
   rw [List.map_cons,List.map_cons]
   refine .cons ?_ ih
   obtain ⟨h1,h2⟩:=h
   by_cases e:p.1=k
   ·rw [if_pos e,if_pos (h1.symm.trans e)]; exact ⟨h1,ry⟩
   ·rw [if_neg e,if_neg (fun z=>e (h1.trans z))]; exact ⟨h1,h2⟩
theorem KV.put {aQ:List (κ×V)} {vs:List (κ×Value)} (r:KV aQ vs) (k:κ) {y:V} {u:Value} (ry:RelV y u):KV (putK aQ k y) (stored vs k u):=by
 unfold putK stored
 rw [r.any k]
 by_cases e:(vs.any fun kv=>decide (kv.1=k))=true
 ·rw [if_pos e,if_pos e]; exact r.JD k ry
 ·rw [if_neg e,if_neg e]; exact Paired.snoc r ⟨rfl,ry⟩
theorem KV.length {aQ:List (κ×V)} {vs:List (κ×Value)} (r:KV aQ vs):aQ.length=vs.length:=Paired.length r
end
theorem zv {P:Program} {w:World} {k:Key} {u:Value} (r:RelV (kV k) u):(cY P w).is k u=true:=by
 cases k with
 | inl i=>obtain ⟨t,e⟩:=(show ∃ t,u=Value.int i t from r); subst e; exact uT P w i t
 | inr x=>obtain ⟨t,e⟩:=(show ∃ t,u=Value.str x t from r); subst e; exact uU P w x t
theorem rY {P:Program} {w:World}:∀ {ks:List Key} {us:List Value},bw (ks.map kV) us->ItemsAre (cY P w) ks us
 | [],_,r=>by rw [List.map_nil] at r; cases r; exact .nil
 | k :: ks,_,r=>by
   rw [List.map_cons] at r
   cases r with
   | cons h t=>exact .cons (zv h) (rY t)
abbrev KT (H:Hp):List (List Key×V)->List (List Key×Addr×Value)->Prop:=Paired fun p q=>p.1=q.1 /\ dw H q.2.1 (p.1.map kV) /\ RelV p.2 q.2.2
theorem KT.val {H:Hp} {aQ:List (List Key×V)} {xs:List (List Key×Addr×Value)} (r:KT H aQ xs) (k:List Key):nr (mJ aQ k) ((atKey xs k).map (·.2)):=by
 induction r with
 | nil=>exact True.intro
 | @cons p q ps qs h t ih=>
   obtain ⟨h1,_,h2⟩:=h
   by_cases e:p.1=k
   ·have e':q.1=k:=h1.symm.trans e
    have b:atKey (q :: qs) k=some q.2:=by simp [atKey,List.find?_cons,e']
    rw [mK e,b]; exact h2
   ·have e':¬ q.1=k:=fun z=>e (h1.trans z)
    have b:atKey (q :: qs) k=atKey qs k:=by simp [atKey,List.find?_cons,e']
    rw [mL e,b]; exact ih
theorem KT.JD {H:Hp} {aQ:List (List Key×V)} {xs:List (List Key×Addr×Value)} (r:KT H aQ xs) (k:List Key) {y:V} {u:Value} (ry:RelV y u):
  KT H (aQ.map fun kv=>if kv.1=k then (kv.1,y) else kv) (xs.map (putAt k u)):=by
 induction r with
 | nil=>exact .nil
 | @cons p q ps qs h t ih=>
   rw [List.map_cons,List.map_cons]
   refine .cons ?_ ih
   obtain ⟨h1,h2,h3⟩:=h
   unfold putAt
   by_cases e:p.1=k
   ·rw [if_pos e,if_pos (h1.symm.trans e)]; exact ⟨h1,h2,ry⟩
   ·rw [if_neg e,if_neg (fun z=>e (h1.trans z))]; exact ⟨h1,h2,h3⟩
theorem KT.put {H:Hp} {aQ:List (List Key×V)} {xs:List (List Key×Addr×Value)} (r:KT H aQ xs) (k:List Key) {b:Addr} {y:V} {u:Value} (hb:dw H b (k.map kV)) (ry:RelV y u):
  KT H (putK aQ k y) (storedH xs k b u):=by
 have e:(aQ.any fun kv=>decide (kv.1=k))=(atKey xs k).isSome:=by
  rw [pG,(r.val k).AQ,Option.isSome_map]
 unfold putK storedH
 rw [e]
 by_cases q:(atKey xs k).isSome=true
 ·rw [if_pos q,if_pos q]; exact r.JD k ry
 ·rw [if_neg q,if_neg q]; exact Paired.snoc r ⟨rfl,hb,ry⟩
theorem KT.keeps {H H':Hp} {aQ:List (List Key×V)} {xs:List (List Key×Addr×Value)} (r:KT H aQ xs) (ht:∀ b ys,dw H b ys->dw H' b ys):KT H' aQ xs:=
 Paired.IM r fun _ _ z=>⟨z.1,ht _ _ z.2.1,z.2.2⟩
section
variable {P:Program} {w:World} {H:Hp} {h:Heap} {a:Addr}
theorem HS {u:HO} (ok:lh P w H h) (e:Rd H a u):cy P w H h a u:=e.ok ok
theorem u5 {aQ:List (Key×V)} (ok:lh P w H h) (e:Rd H a (.dK aQ)):aQ.length<=sizeLine /\ (a == sysModules)=false /\ ∃ vs,KV aQ vs /\ h.DictOf (cY P w) a vs:=
 show cy P w H h a (.dK aQ) from HS ok e
theorem MJ {aQ:List (Key×V)} (ok:lh P w H h) (e:H a=some (.dK aQ)):aQ.length<=sizeLine /\ (a == sysModules)=false /\ ∃ vs,KV aQ vs /\ h.DictOf (cY P w) a vs:=u5 ok (.inl e)
theorem pH {ks:List Key} (ok:lh P w H h) (e:dw H a (ks.map kV)):(tupleKind (cY P w)).is h ks a:=by
 obtain ⟨_,its,r,o,h1,h2,n,h3⟩:=(show cy P w H h a (.tup (ks.map kV)) from Rd.ok e ok)
 exact ⟨o,its.toArray,n,h1,h2,h3,by simpa using rY r⟩
theorem u6 {aQ:List (List Key×V)} (ok:lh P w H h) (e:Rd H a (.dT aQ)):aQ.length<=sizeLine /\ (a == sysModules)=false /\
  ∃ xs,KT H aQ xs /\ h.DictOfH (tupleKind (cY P w)) a xs:=by
 obtain ⟨z,y,xs,r,o,es,ep,h1,h2,h3,h4,h5⟩:=(show cy P w H h a (.dT aQ) from HS ok e)
 refine ⟨z,y,xs,r,o,es,ep,h1,h2,h3,h4,fun x hx=>?_,h5⟩
 have all:∀ {l:List (List Key×V)} {m:List (List Key×Addr×Value)},KT H l m->∀ x∈m,(tupleKind (cY P w)).is h x.1 x.2.1:=by
  intro l m q
  induction q with
  | nil=>intro x hx; exact nomatch hx
  | @cons p q ps qs hq t ih=>
    intro x hx
    rcases List.mem_cons.mp hx with e | hx
    ·subst e
     exact pH ok (by rw [<- hq.1]; exact hq.2.1)
    ·exact ih x hx
 exact all r x hx
theorem HU {aQ:List (List Key×V)} (ok:lh P w H h) (e:H a=some (.dT aQ)):aQ.length<=sizeLine /\ (a == sysModules)=false /\
  ∃ xs,KT H aQ xs /\ h.DictOfH (tupleKind (cY P w)) a xs:=u6 ok (.inl e)
end
def sR (H:Hp) (a:Addr) (y:V) (r:Option V):Prop:=
 (∃ aQ k,Rd H a (.dK aQ) /\ y=kV k /\ r=mJ aQ k) \/ ∃ aQ k b,Rd H a (.dT aQ) /\ y=.ref b /\ dw H b (k.map kV) /\ r=mJ aQ k
def Cm (H:Hp) (a:Addr) (y v:V) (H':Hp):Prop:=
 (∃ aQ k,H a=some (.dK aQ) /\ y=kV k /\ aQ.length < sizeLine /\ H'=upd H a (.dK (putK aQ k v))) \/
 ∃ aQ k b,H a=some (.dT aQ) /\ y=.ref b /\ dw H b (k.map kV) /\ aQ.length < sizeLine /\ H'=upd H a (.dT (putK aQ k v))
theorem sR.t {H:Hp} {a b:Addr} {aQ:List (List Key×V)} {k:List Key} (e:H a=some (.dT aQ)) (eb:dw H b (k.map kV)):sR H a (.ref b) (mJ aQ k):=.inr ⟨aQ,k,b,.inl e,rfl,eb,rfl⟩
theorem Cm.t {H:Hp} {a b:Addr} {aQ:List (List Key×V)} {k:List Key} {v:V} (e:H a=some (.dT aQ)) (eb:dw H b (k.map kV)) (hl:aQ.length < sizeLine):
  Cm H a (.ref b) v (upd H a (.dT (putK aQ k v))):=.inr ⟨aQ,k,b,e,rfl,eb,hl,rfl⟩
section
variable {X:Cx} {pins:List (Addr×Obj)} {σ:St} {H:Hp} {s:Shared} {a:Addr} {y v:V} {u r:Value} {o:Option V} {A:Around} {E:Value->Shared->Prop}
theorem Inv.Py (I:Inv X pins σ H s):sysModules < s.heap.objs.size:=by
 have h:mainGlobals < s.heap.objs.size:=(I.mod.glob.keeps I.bk).lt
 exact Nat.lt_trans (by decide) h
theorem AR {Q:Value->Shared->Prop} (hu:A.units + 1 < cLine) (I:Inv X pins σ H s) (g:sR H a y (some v)) (ry:RelV y u) (h:∀ w' s',Inv X pins σ H s'->RelV v w'->Q w' s'):
  wpAny (model X.prog X.w) A (getItem (.ref a) u) Q E s:=by
 rcases g with ⟨aQ,k,e,ey,l⟩ | ⟨aQ,k,b,e,ey,eb,l⟩
 ·subst ey
  obtain ⟨z,hd,vs,rel,dd⟩:=u5 I.cg e
  obtain ⟨w',hw,xu⟩:=nr.some_of (v:=v) (o:=valueAt vs k) (by rw [l]; exact rel.val k)
  exact wpAny_getItem_of (zv ry) dd.mapOf hw (h w' _ (I.tok _) xu)
 ·subst ey
  cases (show u=Value.ref b from ry)
  obtain ⟨z,hd,xs,rel,dd⟩:=u6 I.cg e
  obtain ⟨w',hw,xu⟩:=nr.some_of (v:=v) (o:=(atKey xs k).map (·.2)) (by rw [l]; exact rel.val k)
  obtain ⟨p,hp,Ox⟩:=Option.map_eq_some_iff.mp hw
  refine wpAny_getItem_heap (tupleKind_room_in1 hu) (pH I.cg eb) dd hp ?_
  rw [Ox]
  exact h w' _ (I.tok _) xu
theorem sS {h':Heap} {t':Nat} {ob:HO} (I:Inv X pins σ H s) (mu:L6 (H a)) (hs:Heap.SameBut a s.heap h') (he:∃ q,h'.get? a=some q) (new:cy X.prog X.w (upd H a ob) h' a ob):
  Inv X pins σ (upd H a ob) { s with heap:=h',toks:=t' }:=
 I.write (x:=a) (e:=a) mu (.inl rfl) (fun b q hb z=>(hs.2 b hb).trans z) he new
theorem JE {P:Program} {w:World} {H':Hp} {h':Heap} {aQ:List (Key×V)} {vs:List (Key×Value)} (z:aQ.length<=sizeLine) (hd:(a == sysModules)=false) (rel:KV aQ vs) (dd:h'.DictOf (cY P w) a vs):
  cy P w H' h' a (.dK aQ):=⟨z,hd,vs,rel,dd⟩
theorem AS {H':Hp} {Q:Unit->Shared->Prop} (hu:A.units + 1 < cLine) (I:Inv X pins σ H s) (g:Cm H a y v H') (ry:RelV y u) (rv:RelV v r) (h:∀ s',Inv X pins σ H' s'->Q () s'):
  wpAny (model X.prog X.w) A (setItem (.ref a) u r) Q E s:=by
 rcases g with ⟨aQ,k,e,ey,l,eH⟩ | ⟨aQ,k,b,e,ey,eb,l,eH⟩
 ·subst ey eH
  obtain ⟨z,hd,vs,rel,dd⟩:=MJ I.cg e
  have hz:vs.length<=sizeLine:=by rw [<- rel.length]; exact z
  have hl:(putK aQ k v).length<=sizeLine:=by have:=ou aQ k v; omega
  refine wpAny_setItem_pairs (hsz:=hz) (zv ry) dd fun h' LH hs=>h _ ?_
  have he:∃ q,h'.get? a=some q:=let ⟨q,_,_,hq,_⟩:=LH; ⟨q,hq⟩
  exact sS I (by rw [e]; exact True.intro) hs he (JE hl hd (rel.put k rv) LH)
 ·subst ey eH
  cases (show u=Value.ref b from ry)
  obtain ⟨z,hd,xs,rel,dd⟩:=HU I.cg e
  have hz:xs.length<=sizeLine:=by rw [<- Paired.length rel]; exact z
  have hl:(putK aQ k v).length<=sizeLine:=by have:=ou aQ k v; omega
  refine wpAny_setItem_heap (hsz:=hz) (tupleKind_room_in1 hu) (pH I.cg eb) dd fun h' LH hs=>h _ ?_
  obtain ⟨q,es,ep,hq,h2,h3,h4,_,h5⟩:=LH
  refine sS I (by rw [e]; exact True.intro) hs ⟨q,hq⟩ ⟨hl,hd,_,(rel.put k eb rv).keeps fun c ys ec=>?_,q,es,ep,hq,h2,h3,h4,h5⟩
  exact ec.dT e
end
section
variable {X:Cx} {pins:List (Addr×Obj)} {σ:St} {H:Hp} {s:Shared} {a:Addr} {aQ:List (Key×V)} {k:Key} {u:Value} {A:Around} {E:Value->Shared->Prop}
end
def JF (i:Expr):Prop:=∀ ov iv,subscripted i false ov iv=operate [ov,iv] (getItem ov iv)
theorem FD {prog:Program} {w:World} {A:Around} {E:Value->Shared->Prop} {s:Shared} {env:Env} {value slice:Expr} {pos:Pos} {T id:String} {Q:Value->Shared->Prop}
  (hl:typeLookup (.type T) "__getitem__"=pure (some (.builtin id))) (hs:JF slice)
  (h:wpAny (model prog w) A (eval value env) (fun o bA=>wpAny (model prog w) A (eval slice env) (fun i lE=>lE.TypeIs o T /\ wpAny (model prog w) A (getItem o i) Q E lE) E bA) E s):
  wpAny (model prog w) A (eval (.Subscript value slice pos) env) Q E s:=by
 refine Subscript_ (wpAny_mono h (fun o bA nB=>wpAny_mono nB (fun i lE sT=>?_) fun _ _ x=>x) fun _ _ x=>x)
 obtain ⟨hT,sT⟩:=sT
 unfold subscriptTail
 refine wpAny_bind ?_
 rw [getitemInPython_of_ne hT.not_modules]
 refine wpAny_bind (wpAny_specialOf hT hl ?_)
 have fin:wpAny (model prog w) A (subscripted slice false o i) (fun r nD=>wpAny (model prog w) A (letTemporaryGo value o r >>= fun _=>pure r) Q E nD) E lE:=by
  rw [hs o i]
  exact wpAny_operating (wpAny_mono sT (fun r nD JG=>wpAny_bind (wpAny_letTemporaryGo (wpAny_pure JG))) fun _ _ x=>x)
 first
  | exact wpAny_pure (wpAny_bind fin)
  | exact wpAny_bind (wpAny_pure (wpAny_bind fin))
  | exact wpAny_bind fin
theorem u7 {X:Cx} {pins:List (Addr×Obj)} {σ:St} {H:Hp} {s:Shared} {a:Addr} {y:V} {o:Option V} (I:Inv X pins σ H s) (g:sR H a y o):s.TypeIs (.ref a) "dict":=by
 rcases g with ⟨aQ,k,e,_,_⟩ | ⟨aQ,k,b,e,_,_,_⟩
 ·obtain ⟨_,_,vs,_,dd⟩:=u5 I.cg e
  exact dd.typeIs
 ·obtain ⟨_,_,xs,_,dd⟩:=u6 I.cg e
  exact dd.typeIs
def MK (td ty:TE):TE:=fun σ H Q=>td σ H fun x H1=>ty σ H1 fun y H2=>∃ a v,x=.ref a /\ sR H2 a y (some v) /\ Q v H2
def HV (td ty tv:TE):TS:=fun D σ H=>tv σ H fun v H1=>td σ H1 fun x H2=>ty σ H2 fun y H3=>∃ a H4,x=.ref a /\ Cm H3 a y v H4 /\ D.nx σ H4
section
variable {X:Cx} {o i e value:Expr} {pos pos' iW:Pos} {td ty tv:TE}
theorem FE (hu:X.A.units + 1 < cLine) (ho:PE X o td) (hi:PE X i ty) (hs:JF i):PE X (.Subscript o i pos) (MK td ty):=by
 intro pins s σ H Q I h
 refine FD PySem.F.slot_dict_getitem.lookup hs (dZ (ho pins s σ H _ I h) fun u s1 ⟨x,H1,I1,rx,q1⟩=>dZ (hi pins s1 σ H1 _ I1 q1) fun iv s2 ⟨y,H2,I2,ry,a,v,ex,g,q2⟩=>?_)
 subst ex
 obtain rfl:u=Value.ref a:=rx
 exact ⟨u7 I2 g,AR hu I2 g ry fun w' s3 I3 xu=>⟨v,H2,I3,xu,q2⟩⟩
theorem zw (hu:X.A.units + 1 < cLine) (ho:PE X o td) (hi:PE X i ty) (hv:PE X value tv) (hs:swapsWith value (some (.Subscript o i pos')) pos.line X.env=pure false):
  PS X (.Assign [.Subscript o i pos'] value pos) (HV td ty tv):=by
 intro pins s σ H D I h
 refine wpAny_Assign_Subscript (dZ (hv pins s σ H _ I h) fun r s1 ⟨v,H1,I1,rv,q1⟩=>dZ (ho pins s1 σ H1 _ I1 q1) fun u s2 ⟨x,H2,I2,rx,q2⟩=>dZ (hi pins s2 σ H2 _ I2 q2) fun iv s3 ⟨y,H3,I3,ry,a,H4,ex,g,q3⟩=>?_) hs
 subst ex
 obtain rfl:u=Value.ref a:=rx
 exact AS hu I3 g ry rv fun s4 I4=>⟨σ,H4,I4,q3⟩
end
theorem Co {P:Program} {w:World} {H:Hp} (h:Heap) (hb:sysModules < h.objs.size):cy P w H (h.push { cls:=.type "dict",data:=.dict #[] }) h.objs.size (.dT []):=
 ⟨Nat.zero_le _,beq_eq_false_iff_ne.mpr (Ne.symm (Nat.ne_of_lt hb)),[],.nil,_,#[],0,Heap.get?_push_size _ rfl,⟨rfl,rfl,rfl⟩,rfl,rfl,List.nodup_nil⟩
section
variable {X:Cx} {pos:Pos}
end
def xH:List (TE×TE)->St->Hp->(List (V×V)->Hp->Prop)->Prop
 | [],_,H,Q=>Q [] H
 | (tk,tv) :: r,σ,H,Q=>tk σ H fun x H1=>tv σ H1 fun y H2=>xH r σ H2 fun ps H3=>Q ((x,y) :: ps) H3
abbrev VV:List (V×V)->List (Value×Value)->Prop:=Paired fun p q=>RelV p.1 q.1 /\ RelV p.2 q.2
def Oy (X:Cx) (pos:Pos) (keys:List (Option Expr)) (values:List Expr) (Oz:List (TE×TE)):Prop:=
 ∀ (pins:List (Addr×Obj)) (s:Shared) (σ:St) (H:Hp) (Q:List (V×V)->Hp->Prop),Inv X pins σ H s->xH Oz σ H Q->
   wpAny (model X.prog X.w) X.A (evalPairs (pairTrees keys values X.env pos)) (fun vs s'=>∃ ps H',Inv X pins σ H' s' /\ VV ps vs /\ Q ps H') X.xe s
theorem FF {X:Cx} {pos:Pos}:Oy X pos [] [] []:=fun pins s σ H Q I h=>pairTrees_nil_walk ⟨[],H,I,.nil,h⟩
theorem Cp {X:Cx} {pos:Pos} {k v:Expr} {ks:List (Option Expr)} {vs:List Expr} {tk tv:TE} {Oz:List (TE×TE)} (hk:PE X k tk) (hv:PE X v tv) (hr:Oy X pos ks vs Oz):
  Oy X pos (some k :: ks) (v :: vs) ((tk,tv) :: Oz):=fun pins s σ H Q I h=>
 pairTrees_cons_walk (dZ (hk pins s σ H _ I h) fun u s1 ⟨x,H1,I1,rx,q1⟩=>dZ (hv pins s1 σ H1 _ I1 q1) fun w2 s2 ⟨y,H2,I2,ry,q2⟩=>
  dZ (hr pins s2 σ H2 _ I2 q2) fun ws s3 ⟨ps,H3,I3,rel,q3⟩=>⟨(x,y) :: ps,H3,I3,.cons ⟨rx,ry⟩ rel,q3⟩)
structure M2 (X:Cx) (o:Expr) (m:Str) (apos:Pos) (e f:Expr) (gR:Pos):Prop where
 base:attributeBase o m X.env (eval o X.env)=eval o X.env
 X9:((backTo gR (starEach [e,f] X.env)).all (fun x=> !x.1) && (backToKw gR (keywordEach [] X.env)).all (fun x=>x.1.isSome)
  && decide (([e,f]:List Expr).length + ([]:List Keyword).length + (if ([]:List Keyword).isEmpty then 0 else 1) < 30))=true
 line:(apos.endLine == gR.line)=true
 trees:backTo gR (starEach [e,f] X.env)=[(false,eval e X.env),(false,eval f X.env)]
def HW (H:Hp) (a:Addr):Prop:=(∃ aQ,Rd H a (.dK aQ)) \/ ∃ aQ,Rd H a (.dT aQ)
theorem JH {X:Cx} {pins:List (Addr×Obj)} {σ:St} {H:Hp} {s:Shared} {a:Addr} (I:Inv X pins σ H s) (d:HW H a):
  s.TypeIs (.ref a) "dict" /\ (∀ b,Value.ref a=.ref b->∃ ob,s.heap.get? b=some ob /\ ob.dict=none) /\ (a == sysModules)=false:=by
 rcases d with ⟨aQ,e⟩ | ⟨aQ,e⟩
 ·obtain ⟨_,hd,vs,_,dd⟩:=u5 I.cg e
  refine ⟨dd.typeIs,fun b q=>?_,hd⟩
  cases q
  obtain ⟨ob,_,_,h1,h2,_⟩:=dd
  exact ⟨ob,h1,h2.2.1⟩
 ·obtain ⟨_,hd,xs,_,dd⟩:=u6 I.cg e
  refine ⟨dd.typeIs,fun b q=>?_,hd⟩
  cases q
  obtain ⟨ob,_,_,h1,h2,_⟩:=dd
  exact ⟨ob,h1,h2.2.1⟩
section
variable {X:Cx} {pins:List (Addr×Obj)} {σ:St} {H:Hp} {s:Shared} {a:Addr} {y d:V} {u r:Value} {o:Option V} {A:Around} {E:Value->Shared->Prop}
theorem JI {Q:Value->Shared->Prop} (hu:A.units + 1 < cLine) (I:Inv X pins σ H s) (g:sR H a y o) (ry:RelV y u) (rd:RelV d r) (h:∀ w' s',Inv X pins σ H s'->RelV (o.getD d) w'->Q w' s'):
  wpAny (model X.prog X.w) A (call (.builtin "dict.get") [.ref a,u,r]) Q E s:=by
 rcases g with ⟨aQ,k,e,ey,l⟩ | ⟨aQ,k,b,e,ey,eb,l⟩
 ·subst ey
  obtain ⟨z,hd,vs,rel,dd⟩:=u5 I.cg e
  refine call_meetsIn PySem.F.slot_dict_get dd.typeIs PySem.F.entry_dict_get (PySem.F.args_dict_get_3 _ _ _) (meets_dict_get_default (cY X.prog X.w) a (zv ry) hd r) ⟨_,dd.mapOf,h _ _ (I.tok _) ?_⟩
  rw [l]
  exact (rel.val k).getD rd
 ·subst ey
  cases (show u=Value.ref b from ry)
  obtain ⟨z,hd,xs,rel,dd⟩:=u6 I.cg e
  refine call_meetsIn PySem.F.slot_dict_get dd.typeIs PySem.F.entry_dict_get (PySem.F.args_dict_get_3 _ _ _) (meetsH_dict_get_default (tupleKind (cY X.prog X.w)) a b hd r) ⟨tupleKind_room_in1 hu,k,xs,pH I.cg eb,dd,h _ _ (I.tok _) ?_⟩
  rw [l]
  exact (rel.val k).getD rd
end
def JJ (td ty tx:TE):TE:=fun σ H Q=>td σ H fun x H1=>∃ a,x=.ref a /\ HW H1 a /\ ty σ H1 fun y H2=>tx σ H2 fun z H3=>∃ o,sR H3 a y o /\ Q (o.getD z) H3
section
variable {X:Cx} {o e f:Expr} {apos gR:Pos} {td ty tx:TE}
theorem Cq (hu:X.A.units + 1 < cLine) (ho:PE X o td) (he:PE X e ty) (hf:PE X f tx) (m:M2 X o "get" apos e f gR):PE X (.Call (.Attribute o "get" apos) [e,f] [] gR) (JJ td ty tx):=by
 intro pins s σ H Q I h
 refine wpAny_Call_method m.base m.X9 m.line PySem.F.plainAttrs_dict PySem.F.slot_dict_get PySem.F.type_dict_get (dZ (ho pins s σ H _ I h) fun u s1 ⟨x,H1,I1,rx,a,ex,d,q1⟩=>?_)
 subst ex
 obtain rfl:u=Value.ref a:=rx
 obtain ⟨t1,t2,_⟩:=JH I1 d
 refine ⟨t1,t2,?_⟩
 rw [m.trees]
 refine Calls.callWith_builtin rfl (Calls.evalArgs_plain (Calls.spliced_cons (dZ (he pins s1 σ H1 _ I1 q1) fun iv s2 ⟨y,H2,I2,ry,q2⟩=>
  Calls.spliced_cons (dZ (hf pins s2 σ H2 _ I2 q2) fun fv s3 ⟨z,H3,I3,rz,ov,g,q3⟩=>Calls.spliced_nil ?_))))
 exact JI hu I3 g ry rz fun w' s4 I4 xu=>⟨_,H3,I4,xu,q3⟩
end
end L2
set_option maxHeartbeats 4000000
namespace L2
open PySem PySem.Spec PyProof.Rows
section
variable {X:Cx}
theorem aU:iV X (binaryOp .Mult) (rI IntMulOk fun i j=>.int (i * j)):=Mr fun _ _ _ _ _ _ _ hc q=>mul_int q hc
def zx (i j:Int):Prop:=j≠0 /\ Builtin.divisionGoesByPylong i j=false
theorem bE:iV X (binaryOp .FloorDiv) (rI zx fun i j=>.int (i.fdiv j)):=Mr fun _ _ _ _ _ _ _ hc q=>floordiv_int hc.1 q (.inl hc.2)
theorem rZ {i j:Int} (h:Builtin.Int.intBits j<=9000):Builtin.divisionGoesByPylong i j=false:=by
 refine PyProof.noPylong_of_log2 ?_
 unfold Builtin.Int.intBits at h
 by_cases hj:j=0
 ·subst hj; decide +kernel
 ·rw [if_neg (by simpa using hj)] at h
  omega
theorem mul_right {i j:Int} (h1: -(2 ^ 64) < j) (h2:j < 2 ^ 64):IntMulOk i j:=.of_right (intBits_le_64 h1 h2)
theorem mul_left {i j:Int} (h1: -(2 ^ 64) < i) (h2:i < 2 ^ 64):IntMulOk i j:=.of_left (intBits_le_64 h1 h2)
def WK (K:PySem.W.Frag) (H:Hp) (x:V) (t:String):Prop:=
 ny K H x (.type t) \/ (∃ a xs,x=.ref a /\ jn K H a xs /\ t="tuple") \/ (∃ a xs,x=.ref a /\ iC K H a xs /\ t="list")
def Pz (K:PySem.W.Frag):List V->Hp->VK->Prop:=fun xs H Q=>∃ x n t b,xs=[x,.ty n] /\ WK K H x t /\ PySem.W.kitOne K (.type t) (.type n)=some b /\ Q (.bl b) H
theorem Cr:eX X (.builtin "isinstance") (Pz X.K):=by
 intro pins s σ H xs us Q I r h
 obtain ⟨x,n,t,b,rfl,ty,e,q⟩:=h
 obtain ⟨u1,u2,rfl,r1,r2⟩:∃ u1 u2,us=[u1,u2] /\ RelV x u1 /\ RelV (.ty n) u2:=by
  cases r with
  | cons p q=>cases q with
    | cons p' q'=>cases q'; exact ⟨_,_,rfl,p,p'⟩
 cases (show u2=Value.type n from r2)
 have fin:∀ tk,EP X pins σ Q (.bool b) { s with toks:=tk }:=fun tk=>⟨.bl b,H,I.tok _,rfl,q⟩
 rcases ty with ty | ⟨a,ys,rfl,hq,rfl⟩ | ⟨a,ys,rfl,hq,rfl⟩
 ·exact AK I r1 ty e fin
 ·cases (show u1=Value.ref a from r1)
  obtain ⟨its,_,p,_⟩:=I.tuple hq
  obtain ⟨o,h1,h2,_⟩:=p
  exact PySem.W.kia_one PySem.W.kitx_tuple I.qM ⟨o,h1,h2⟩ e (fun z=>nomatch z) fin
 ·cases (show u1=Value.ref a from r1)
  obtain ⟨its,_,p,_⟩:=I.list hq
  obtain ⟨o,n,h1,h2,_⟩:=p
  exact PySem.W.kia_one PySem.W.kitx_list I.qM ⟨o,h1,h2⟩ e (fun z=>nomatch z) fin
theorem Cs {K:PySem.W.Frag} {t:String}:PySem.W.kitOne K (.type t) (.type t)=some true:=by
 unfold PySem.W.kitOne
 rw [if_pos (by simp)]
def Dn (P:Program) (w:World) (K:PySem.W.Frag) (mg:Str->Option Value) (base:Heap) (k:Nat) (x:Str) (ps:List Str) (sp:Sp):Prop:=
 ∃ f fd,lF P w K mg base oX k f fd ps sp /\ mg x=some (.ref f) /\ PySem.W.keepIn K (.ref f)=true /\ Binds K fd ps []
theorem zy {k kk:Nat} {x:Str} {ps:List Str} {sp:Sp} {e:Expr} {es:List Expr} {t:TA} {p pos:Pos} (D:Dn X.prog X.w X.K X.mg X.base k x ps sp) (hr:c8 kk X.A) (hk:k<=kk) (ha:PA X (e :: es) t) (hg:Gl X x:=by rfl)
  (qW:(x == ("__debug__":Str))=false:=by decide) (he:starEach (e :: es) X.env=(false,eval e X.env) :: starEach es X.env:=by rfl) (lp:(backTo pos (starEach es X.env)).any (·.1)=false:=by rfl):
  PE X (.Call (.Name x p) (e :: es) [] pos) (HN sp [] E0 t):=by
 obtain ⟨f,fd,F,m,kp,b⟩:=D
 exact Fp F (hr.mono hk) hg m kp b .nil MH ha qW he lp
structure Bs (mg:Str->Option Value):Prop where
 len:mg "len"=none
 range:mg "range"=none
 isinstance:mg "isinstance"=none
 max:mg "max"=none
 min:mg "min"=none
 int:mg "int"=none
 bool:mg "bool"=none
 tuple:mg "tuple"=none
 list:mg "list"=none
 abs:mg "abs"=none
 str:mg "str"=none
 sum:mg "sum"=none
 sorted:mg "sorted"=none
 reversed:mg "reversed"=none
 enumerate:mg "enumerate"=none
 set:mg "set"=none
 all:mg "all"=none
 zip:mg "zip"=none
 any:mg "any"=none
def Df (K:PySem.W.Frag) (mg:Str->Option Value) (x:Str) (st:Stmt) (ps:List Str):Prop:=∃ f fd,Ck K x x st f fd /\ mg x=some (.ref f) /\ Binds K fd ps []
theorem Df.ok {P:Program} {w:World} {K:PySem.W.Frag} {mg:Str->Option Value} {base:Heap} {x:Str} {st:Stmt} {N ps:List Str} {k:Nat} {sp:Sp} (F:Df K mg x st ps) (S:aI N ps (aq st)) (len:∀ vs H Q E,sp vs H Q E->vs.length=ps.length)
  (j4:∀ (f:Addr) (cR:Value) (A:Around) (outer:List Env) (s:Shared) (H:Hp) (vs:List V) (Q:VK) (E:XK),c8 k (A.deeper (envOfC x (aq st) s.heap.objs.size f cR))->sp vs H Q E->
   ∃ t,mE (pB oX P w K mg base N x (aq st) f cR A outer s H E).EU (eI st) t /\ t { nx:=fun _ H'=>Q .h8 H',rt:=Q } (start N vs) H):Dn P w K mg base (k + 1) x ps sp:=by
 obtain ⟨f,fd,F,m,b⟩:=F
 exact ⟨f,fd,F.ok S len (j4 f),m,F.kp,b⟩
def Cn (mg:Str->Option Value) (x:Str) (v:V):Prop:=∃ u,mg x=some u /\ RelV v u
theorem j6 {x:Str} {v:V} {pos:Pos} (c:Cn X.mg x v) (hg:Gl X x:=by rfl) (hd:(x == ("__debug__":Str))=false:=by decide):PE X (.Name x pos) (tC v):=by
 obtain ⟨u,m,r⟩:=c
 exact Ff hg m r hd
end
theorem cD {H:Hp} {p:Addr} (h:H p=none) (o:HO):aH H (upd H p o):=fun b u q=>by rw [aR (aV q h)]; exact q
theorem small {n:Nat} (h:n<=100000):n<=sizeLine:=Nat.le_trans h (by decide)
theorem Ct {n:Nat} (h:n<=100000):n < sizeLine:=Nat.lt_of_le_of_lt h (by decide)
section
variable {X:Cx}
def HX:V->List V->Hp->VK->Prop:=fun x vs H Q=>∃ i:Int,x=.int i /\ vs=[] /\ Q (.int (Builtin.Int.intBits i:Nat)) H
theorem FG:Ov X "int.bit_length" HX:=by
 intro pins s σ H x vs v us Q I rx rv h
 obtain ⟨i,rfl,rfl,q⟩:=h
 obtain ⟨t,rfl⟩:=rx
 cases rv
 exact call_int_bit_length ⟨.int _,H,I.tok _,⟨_,rfl⟩,q⟩
theorem FH {o:Expr} {to:TE} {apos gR:Pos} (ho:PE X o to) (pE:attributeBase o "bit_length" X.env (eval o X.env)=eval o X.env:=by rfl) (pF:(apos.endLine == gR.line)=true:=by rfl):
  PE X (.Call (.Attribute o "bit_length" apos) [] [] gR) (MC X.K "int" HX to):=Jy PySem.F.plainAttrs_int PySem.F.slot_int_bit_length PySem.F.type_int_bit_length FG ho pE pF
end
theorem aH.upd {H H':Hp} {l:Addr} (s:aH H H') (h:H l=none) (o:HO):aH H (upd H' l o):=fun b u q=>by rw [aR (aV q h)]; exact s b u q
theorem Cu:bootBuiltins "int"=some (.type "int"):=by decide +kernel
theorem FI:bootBuiltins "bool"=some (.type "bool"):=by decide +kernel
theorem pI:bootBuiltins "tuple"=some (.type "tuple"):=by decide +kernel
theorem zz:bootBuiltins "list"=some (.type "list"):=by decide +kernel
theorem eZ:bootBuiltins "len"=some (.builtin "len"):=by decide +kernel
theorem nF:bootBuiltins "abs"=some (.builtin "abs"):=by decide +kernel
theorem Cv:bootBuiltins "max"=some (.builtin "max"):=by decide +kernel
theorem JK:bootBuiltins "min"=some (.builtin "min"):=by decide +kernel
theorem ra:bootBuiltins "isinstance"=some (.builtin "isinstance"):=by decide +kernel
section
variable {X:Cx}
end
section
variable {X:Cx}
end
section
variable {X:Cx}
theorem lG {scope:Scope} {env:Env} (h:∀ y∈scope.names,y.2=.free->∃ c,env.cells.lookup y.1=some c):
  ∃ cl:List (Str×Addr),closureFor scope env=pure cl /\ (∀ n c,cl.lookup n=some c->env.cells.lookup n=some c) /\ ∀ n,(n,NameKind.free)∈scope.names->∃ c,cl.lookup n=some c:=by
 have go:∀ (l:List (Str×NameKind)) (cs:List (Str×Addr)),(∀ y∈l,y.2=.free->∃ c,env.cells.lookup y.1=some c)->(∀ n c,cs.lookup n=some c->env.cells.lookup n=some c)->
   ∃ cl:List (Str×Addr),(forIn l cs fun x r=>(match x with | (name,kind)=>if (kind == NameKind.free)=true then (do let a <- cellOf env name; pure (ForInStep.yield ((name,a) :: r))) else pure (ForInStep.yield r):Sem (ForInStep (List (Str×Addr)))))=(pure cl:Sem _) /\
     (∀ n c,cl.lookup n=some c->env.cells.lookup n=some c) /\ (∀ n,(n,NameKind.free)∈l->∃ c,cl.lookup n=some c) /\ ∀ n c,cs.lookup n=some c->∃ c',cl.lookup n=some c':=by
  intro l
  induction l with
  | nil=>intro cs _ hc; exact ⟨cs,rfl,hc,fun n hn=>by simp at hn,fun n c e=>⟨c,e⟩⟩
  | cons y r ih=>
    intro cs hl hc
    obtain ⟨name,kind⟩:=y
    by_cases hk:kind=.free
    ·subst hk
     obtain ⟨c,e⟩:=hl (name,.free) List.mem_cons_self rfl
     have LC:∀ n d,((name,c) :: cs).lookup n=some d->env.cells.lookup n=some d:=by
      intro n d q
      rw [List.lookup_cons] at q
      cases hb:n == name with
      | true=>rw [hb] at q; cases q; rw [eq_of_beq hb]; exact e
      | false=>rw [hb] at q; exact hc n d q
     obtain ⟨cl,h1,h2,h3,h4⟩:=ih ((name,c) :: cs) (fun y hy=>hl y (List.mem_cons_of_mem _ hy)) LC
     refine ⟨cl,?_,h2,fun n hn=>?_,fun n d q=>?_⟩
     ·rw [List.forIn_cons]
      have ec:cellOf env name=pure c:=by unfold cellOf; rw [e]
      simp only [beq_self_eq_true,if_true,ec,pure_bind]
      exact h1
     ·rcases List.mem_cons.mp hn with z | z
      ·cases z
       exact h4 name c (by rw [List.lookup_cons]; simp)
      ·exact h3 n z
     ·by_cases hb:n == name
      ·exact h4 n c (by rw [List.lookup_cons,hb])
      ·exact h4 n d (by rw [List.lookup_cons]; simp only [hb]; exact q)
    ·obtain ⟨cl,h1,h2,h3,h4⟩:=ih cs (fun y hy=>hl y (List.mem_cons_of_mem _ hy)) hc
     refine ⟨cl,?_,h2,fun n hn=>?_,h4⟩
     ·rw [List.forIn_cons]
      have eb:(kind == NameKind.free)=false:=by simpa using hk
      simp only [eb,Bool.false_eq_true,if_false,pure_bind]
      exact h1
     ·rcases List.mem_cons.mp hn with z | z
      ·cases z; exact absurd rfl hk
      ·exact h3 n z
 obtain ⟨cl,h1,h2,h3,_⟩:=go scope.names [] h (fun n c e=>by simp at e)
 refine ⟨cl,?_,h2,h3⟩
 simp only [closureFor]
 rw [h1]
 rfl
def b7 (X:Cx) (scope:Scope) (N':List Str) (cl:List (Str×Addr)) (C:Addr) (s2:Shared) (H2:Hp) (fp:List Addr) (pins:List (Addr×Obj)):Cx:=
 { X with N:=N',fS:=s2,AB:=H2,env:=compEnvC scope cl C X.env,outer:=X.stack,stack:=X.stack,ex:=fp,fn:=fun _=>false,pn:=X.pn ++ pins,xe:=fun _ _=>False }
def mM (ix:List Nat) (σ:St):St:=ix.map fun j=>(σ[j]?).join
section
variable {scope:Scope} {x:Str} {ix:List Nat} {N':List Str} {cl:List (Str×Addr)} {C:Addr} {s2 s3:Shared} {H2:Hp} {fp:List Addr} {pins:List (Addr×Obj)} {σ:St}
theorem Cw {j:Nat} {v:V} (h:(mM ix σ)[j]?=some (some v)):∃ i,ix[j]?=some i /\ σ[i]?=some (some v):=by
 unfold mM at h
 rw [List.getElem?_map] at h
 cases e:ix[j]? with
 | none=>rw [e] at h; cases h
 | some i=>
   rw [e] at h
   have h':(σ[i]?).join=some v:=Option.some.inj h
   refine ⟨i,rfl,?_⟩
   cases q:σ[i]? with
   | none=>rw [q] at h'; cases h'
   | some w=>rw [q] at h'; rw [show w=some v from h']
abbrev zA (its:List Value) (n:Nat):Obj:={ cls:=.type "list",data:=.seq its.toArray n }
theorem Inv.HY {X:Cx} {pins:List (Addr×Obj)} {σ:St} {H:Hp} {s:Shared} {D:Addr} {ys:List V} {its:List Value} {n:Nat} (I:Inv X pins σ H s) (hD:H D=none) (hs:X.fS.heap.objs.size<=D) (hl:D≠X.env.locals) (hc:∀ x c,X.env.cells.lookup x=some c->c≠D)
  (hp:∀ p∈X.pn ++ pins,p.1≠D) (e:s.heap.get? D=some (zA its n)) (r:bw ys its) (hz:ys.length<=sizeLine):Inv X pins σ (upd H D (.lst ys)) s:=by
 have h:=I.step (H':=upd H D (.lst ys)) (h':=s.heap) (g':=s.gens) (t':=s.toks) (d':=s.drawn) (ch:=[D]) (fun b hb=>by
   have e:b=D:=by simpa using hb
   subst e
   exact ⟨.inr hs,hl,hc,hp⟩)
  (fun b o _ _ _ q _=>q) (fun b o _ _ _ q _=>⟨o.slots,q⟩) (fun b o hb _ q=>by rw [aR (by simpa using hb)]; exact q) (fun b o _ q=>⟨o,q⟩)
  (fun b xs q=>by rw [aR (aV q hD)]; exact q) (fun b o u q=>by rw [aR (aV q hD)]; exact q) (fun b ps q=>⟨#[],by rw [aR (aV q hD),Array.append_empty]; exact q⟩) (fun m hm=>hm) (fun b u q=>?_) I.bare
 ·exact h
 ·by_cases hb:b=D
  ·subst hb
   rw [bR] at q; cases q
   exact ⟨hz,its,n,r,e⟩
  ·rw [aR hb] at q
   exact (I.cg b u q).qQ (fun _ _ _ z=>z) (fun c z=>by rw [aR (aV z hD)]; exact z) fun c xs z=>z.new hD
theorem AU (I0:Inv X pins σ H2 s2) (hC:s2.heap.objs.size<=C) {D:Addr} (hD:s2.heap.objs.size<=D) (hf:∀ b∈fp,jU X pins H2 b) {cZ:St} {H:Hp} {s1:Shared} {ys:List V} {its:List Value} {n:Nat} {more:List (Addr×Obj)}
  (I:Inv (b7 X scope N' cl C s2 H2 fp pins) ((D,zA its n) :: more) cZ H s1) (r:bw ys its) (hz:ys.length<=sizeLine) {h':Heap} (hs:Heap.SameBut C s1.heap h') (HZ:D≠C):
  Inv X pins σ (upd H D (.lst ys)) { s1 with heap:=h' }:=by
 have nC:∀ b o,s2.heap.get? b=some o->b≠C:=fun b o e=>Nat.ne_of_lt (Nat.lt_of_lt_of_le (Heap.lt_size e) hC)
 have B:Un (lj X.stack) fp H2 H s2.heap s1.heap:=I.base
 have fC:H C=none:=I.free
 have pD:=I.pin (D,zA its n) (List.mem_append_right _ List.mem_cons_self)
 have u:Un (lj X.stack) fp H2 H s2.heap h':=⟨fun b o e n hb hx=>(hs.2 b (nC b o e)).trans (B.keep b o e n hb hx),fun b o e n hb hx=>by
   obtain ⟨sl,q⟩:=B.slot b o e n hb hx
   exact ⟨sl,(hs.2 b (nC b o e)).trans q⟩,B.free,fun b o e hx=>by
   obtain ⟨o',q⟩:=B.there b o e hx
   exact ⟨o',(hs.2 b (nC b o e)).trans q⟩,B.pz,B.qR,B.sI⟩
 have cg:lh X.prog X.w H h':=fun b o e=>(I.cg b o e).qQ (fun c v hc q=>(hs.2 c (by
   rintro rfl
   rcases hc with z | z
   ·subst z; rw [fC] at e; cases e
   ·rw [fC] at z; cases z)).trans q) (fun _ q=>q) fun _ _ q=>q
 have I1:Inv X pins σ H { s1 with heap:=h' }:=I0.Me (s':={ s1 with heap:=h' }) (ch:=fp) I.os u cg I.bare fun b hb=>⟨(hf b hb).2.2.2.1,(hf b hb).2.1,(hf b hb).2.2.2.2.1,(hf b hb).2.2.2.2.2⟩
 refine I1.HY (its:=its) (n:=n) pD.2.1 (Nat.le_trans I0.sz hD) (Nat.ne_of_gt (Nat.lt_of_lt_of_le I0.lt hD)) (fun a c e z=>?_) (fun p hp z=>?_) ((hs.2 D HZ).trans pD.1) r hz
 ·obtain ⟨v,q⟩:=I0.cell a c e
  exact absurd (Nat.lt_of_lt_of_le q.lt (by rw [z]; exact hD)) (Nat.lt_irrefl _)
 ·exact absurd (Nat.lt_of_lt_of_le (Heap.lt_size (I0.pin p hp).1) (by rw [z]; exact hD)) (Nat.lt_irrefl _)
end
section
variable {scope:Scope} {x:Str} {ix:List Nat} {N':List Str} {elt iter:Expr} {px pos:Pos} {wi:TI} {te:TE}
end
def FJ (sc scope:Scope):List (Str×NameKind):=scope.names.map fun (n,k)=>if (k == .free && sc.kind == .function && sc.names.lookup n == some .cell) then (n,.cell) else (n,k)
theorem lookup_mem {n:Str} {k:NameKind}:∀ {l:List (Str×NameKind)},l.lookup n=some k->(n,k)∈l
 | [],h=>by simp at h
 | (a,b) :: r,h=>by
   rw [List.lookup_cons] at h
   cases e:n == a with
   | true=>rw [e] at h; cases h; rw [eq_of_beq e]; exact List.mem_cons_self
   | false=>rw [e] at h; exact List.mem_cons_of_mem _ (lookup_mem h)
section
variable {scope:Scope} {x:Str} {elt iter:Expr} {px pos:Pos} {wi:TI} {te:TE}
end
end
section
variable {X:Cx} {pins:List (Addr×Obj)} {σ:St} {H:Hp} {s:Shared}
end
section
variable {X:Cx}
end
abbrev iX:=Int×Int
def dF (q:iX):PyData:=.tuple [.int q.1,.int q.2]
def dP (l:List iX):PyData:=.list (l.map dF)
abbrev D:=PyData
abbrev DS:=List (Option D)
def b8:List (Addr×List V):=[(149,[.int (0),.int (1)]),(169,[.int (1),.int (1)])]
def b9:List (Addr×Pos×Str):=[(206,⟨130,44,130,70⟩,"by_falling_ratio.<locals>.<lambda>"),(218,⟨145,28,145,65⟩,"in_order.<locals>.<lambda>")]
theorem aH.lH {H H':Hp} {a:Addr} {xs:List V} (s:aH H H') (h:dw H a xs):dw H' a xs:=by
 rcases h with h | ⟨ob,h⟩
 ·exact .inl (s _ _ h)
 ·exact .inr ⟨ob,s _ _ h⟩
def wo (H:Hp) (A:List Addr):Hp:=fun a=>if a∈A then none else H a
section
variable {K:PySem.W.Frag} {H H':Hp} {A A':List Addr} {a l p r:Addr} {o:HO}
theorem cj (h:a∉A):wo H A a=H a:=by unfold wo; rw [if_neg h]
theorem j7 (h:a∈A):wo H A a=none:=by unfold wo; rw [if_pos h]
theorem kB (h:wo H A a=some o):a∉A /\ H a=some o:=by
 unfold wo at h
 split at h
 ·cases h
 ·exact ⟨by assumption,h⟩
theorem cb:aH (wo H A) H:=fun _ _ h=>(kB h).2
theorem cq (s:aH H H'):aH (wo H A) (wo H' A):=fun b u h=>by
 obtain ⟨h1,h2⟩:=kB h
 rw [cj h1]; exact s b u h2
theorem lI (h:∀ a∈A',a∈A):aH (wo H A) (wo H A'):=fun b u q=>by
 obtain ⟨h1,h2⟩:=kB q
 rw [cj fun z=>h1 (h b z)]; exact h2
theorem pJ:wo H []=H:=by funext a; exact cj (by simp)
theorem Cy (h:p∉A):wo (upd H p o) A=upd (wo H A) p o:=by
 funext a
 by_cases e:a=p
 ·subst e; rw [cj h,bR,bR]
 ·rw [aR e]
  by_cases z:a∈A
  ·rw [j7 z,j7 z]
  ·rw [cj z,cj z,aR e]
theorem Cz (h:l∈A):wo (upd H l o) A=wo H A:=by
 funext a
 by_cases z:a∈A
 ·rw [j7 z,j7 z]
 ·rw [cj z,cj z,aR]
  intro e; subst e; exact z h
theorem u9 (h:H r=none):wo (upd H r o) (r :: A)=wo H A:=by
 funext a
 by_cases e:a=r
 ·subst e
  rw [j7 (by simp)]
  by_cases z:a∈A
  ·rw [j7 z]
  ·rw [cj z,h]
 ·by_cases z:a∈A
  ·rw [j7 (by simp [z]),j7 z]
  ·rw [cj (by simp [e,z]),cj z,aR e]
theorem zB (s:aH H H') (h:H r=none):aH (wo H A) (wo H' (r :: A)):=fun b u q=>by
 obtain ⟨h1,h2⟩:=kB q
 rw [cj (by simp only [List.mem_cons,not_or]; exact ⟨aV h2 h,h1⟩)]
 exact s b u h2
def FK:HO->Prop
 | .lst _=>True
 | .dT _=>True
 | _=>False
def Ls (A:List Addr) (H:Hp):Prop:=(∀ a∈A,∃ o,H a=some o /\ FK o) /\ (∀ p xs,(p,xs)∈b8->dw H p xs) /\ ∀ p y q,(p,y,q)∈b9->H p=some (.lam y q)
theorem Ls.same (h:Ls A H) (s:aH H H'):Ls A H':=⟨fun a ha=>let ⟨o,e,q⟩:=h.1 a ha; ⟨o,s _ _ e,q⟩,fun p xs m=>s.lH (h.2.1 p xs m),fun p y q m=>s _ _ (h.2.2 p y q m)⟩
theorem dw.apart {xs:List V} (t:dw H p xs) (e:H l=some o) (w:FK o):p≠l:=fun z=>by
 subst z
 rcases t with t | ⟨ob,t⟩ <;> rw [e] at t <;> cases t <;> exact w
theorem dw.wo {xs:List V} (t:dw H p xs) (n:p∉A):dw (L2.wo H A) p xs:=by
 rcases t with t | ⟨ob,t⟩
 ·exact .inl (by rw [cj n]; exact t)
 ·exact .inr ⟨ob,by rw [cj n]; exact t⟩
theorem Ls.free (h:Ls A H) (n:H p=none):p∉A:=fun z=>by
 obtain ⟨ys,e,_⟩:=h.1 p z
 rw [n] at e; cases e
end
def mN:Key->D:=Sum.elim .int .str
mutual
inductive HD (K:PySem.W.Frag) (H:Hp):V->D->Prop
 | h8:HD K H .h8 .none
 | bl (b:Bool):HD K H (.bl b) (.bool b)
 | int (i:Int):HD K H (.int i) (.int i)
 | str (x:Str):HD K H (.str x) (.str x)
 | lst {a:Addr} {xs:List V} {ds:List D}:xk K H a xs->cv K H xs ds->HD K H (.ref a) (.list ds)
 | tup {a:Addr} {xs:List V} {ds:List D}:dw H a xs->cv K H xs ds->HD K H (.ref a) (.tuple ds)
 | qO {a:Addr} {aQ:List (List Key×V)} {kds:List (D×D)}:H a=some (.dT aQ)->kds.map (·.1)=aQ.map (fun p=>PyData.tuple (p.1.map mN))->cv K H (aQ.map (·.2)) (kds.map (·.2))->HD K H (.ref a) (.dict kds)
 | fn {f c:Addr} {q:Str}:H c=some (.code q)->HD K H (.ref f) (.dict [(.list [],.tuple [.int (f:Nat),.int (c:Nat),.str q])])
inductive cv (K:PySem.W.Frag) (H:Hp):List V->List D->Prop
 | nil:cv K H [] []
 | cons {x:V} {xs:List V} {d:D} {ds:List D}:HD K H x d->cv K H xs ds->cv K H (x :: xs) (d :: ds)
end
theorem aH.rd {H H':Hp} {a:Addr} {u:HO} (s:aH H H') (h:Rd H a u):Rd H' a u:=by
 rcases h with h | ⟨o,h⟩
 ·exact .inl (s _ _ h)
 ·exact .inr ⟨o,s _ _ h⟩
theorem xk.of {K:PySem.W.Frag} {H:Hp} {a:Addr} {xs:List V} (h:H a=some (.lst xs)):xk K H a xs:=.inl (.inl h)
theorem xk.sq {K:PySem.W.Frag} {H:Hp} {a:Addr} {xs:List V} (h:xk K H a xs):iC K H a xs:=by
 rcases h with h | ⟨its,n,h1,h2,h3⟩
 ·exact .inl h
 ·exact .inr ⟨_,its.toArray,n,h1,rfl,rfl,rfl,by rw [List.size_toArray]; exact h2,by simpa using h3⟩
theorem xk.same {K:PySem.W.Frag} {H H':Hp} {a:Addr} {xs:List V} (s:aH H H') (h:xk K H a xs):xk K H' a xs:=by
 rcases h with h | h
 ·exact .inl (s.rd h)
 ·exact .inr h
theorem Inv.WL {X:Cx} {pins:List (Addr×Obj)} {σ:St} {H:Hp} {s:Shared} {a:Addr} {xs:List V} (I:Inv X pins σ H s) (h:xk X.K H a xs):xs.length<=sizeLine /\ ∃ (its:List Value) (n:Nat),bw xs its /\ s.heap.get? a=some { cls:=.type "list",data:=.seq its.toArray n }:=by
 rcases h with h | ⟨its,n,h1,h2,h3⟩
 ·exact h.ok I.cg
 ·exact ⟨by rw [h3.length]; exact h2,its,n,h3,I.qM a _ h1⟩
theorem HD.same {K:PySem.W.Frag} {H H':Hp} (e:aH H H') {x:V} {d:D} (h:HD K H x d):HD K H' x d:=
 HD.rec (motive_1:=fun x d _=>HD K H' x d) (motive_2:=fun x d _=>cv K H' x d) .h8 .bl .int .str (fun hq _ i=>.lst (hq.same e) i) (fun hq _ i=>.tup (e.lH hq) i) (fun hq k _ i=>.qO (e _ _ hq) k i) (fun h=>.fn (e _ _ h)) .nil (fun _ _ i j=>.cons i j) h
theorem cv.same {K:PySem.W.Frag} {H H':Hp} (e:aH H H') {x:List V} {d:List D} (h:cv K H x d):cv K H' x d:=
 cv.rec (motive_1:=fun x d _=>HD K H' x d) (motive_2:=fun x d _=>cv K H' x d) .h8 .bl .int .str (fun hq _ i=>.lst (hq.same e) i) (fun hq _ i=>.tup (e.lH hq) i) (fun hq k _ i=>.qO (e _ _ hq) k i) (fun h=>.fn (e _ _ h)) .nil (fun _ _ i j=>.cons i j) h
section
variable {X:Cx} {pins:List (Addr×Obj)} {σ:St} {H:Hp} {s:Shared}
theorem cT {d:D} (h:SeqAt.shaped d=true):d.canLay0=true:=by
 unfold SeqAt.shaped at h
 rw [Bool.and_eq_true] at h
 exact h.1
theorem JL (I:Inv X pins σ H s) {a:Addr} {xs:List V} {ds:List D} {u:Value} (hq:xk X.K H a xs) (r:RelV (.ref a) u) (h:∀ {us},bw xs us->∃ as,ReadsAll s.heap us ds as):∃ as,Reads s.heap u (.list ds) as:=by
 cases (show u=Value.ref a from r)
 obtain ⟨its,rv,⟨o,n,h1,h2,_,h3⟩,_⟩:=I.list hq.sq
 obtain ⟨as,q⟩:=h rv
 exact ⟨_,.list h1 h2 h3 (by simpa using q)⟩
theorem JM (I:Inv X pins σ H s) {a:Addr} {xs:List V} {ds:List D} {u:Value} (hq:dw H a xs) (r:RelV (.ref a) u) (h:∀ {us},bw xs us->∃ as,ReadsAll s.heap us ds as):∃ as,Reads s.heap u (.tuple ds) as:=by
 cases (show u=Value.ref a from r)
 obtain ⟨its,rv,⟨o,h1,h2,n,h3⟩,_⟩:=I.tuple (.inl hq)
 obtain ⟨as,q⟩:=h rv
 exact ⟨_,.tuple h1 h2 h3 (by simpa using q)⟩
theorem HD.reads (I:Inv X pins σ H s) {x:V} {d:D} (h:HD X.K H x d):∀ {u:Value},RelV x u->PyData.canLay0 d=true->∃ as,Reads s.heap u d as:=
 HD.rec (motive_1:=fun x d _=>∀ {u},RelV x u->d.canLay0=true->∃ as,Reads s.heap u d as) (motive_2:=fun x d _=>∀ {u},bw x u->PyData.canLayAll0 d=true->∃ as,ReadsAll s.heap u d as)
  (fun {u} r _=>by cases (show u=Value.none from r); exact ⟨_,.none⟩) (fun b {u} r _=>by cases (show u=Value.bool b from r); exact ⟨_,.bool b⟩) (fun i {u} r _=>by obtain ⟨t,rfl⟩:=r; exact ⟨_,.int i t⟩) (fun i {u} r _=>by obtain ⟨t,rfl⟩:=r; exact ⟨_,.str i t⟩)
  (fun {_ _ _} hq _ i {_} r c=>JL I hq r fun rv=>i rv (by rw [PyData.canLay0] at c; exact c)) (fun {_ _ _} hq _ i {_} r c=>JM I hq r fun rv=>i rv (by rw [PyData.canLay0] at c; exact c)) (fun {_ _ _} _ _ _ _ {_} _ c=>by rw [PyData.canLay0] at c; cases c) (fun {_ _ _} _ {_} _ c=>by rw [PyData.canLay0] at c; cases c)
  (fun {_} r _=>by cases r; exact ⟨_,.nil⟩) (fun {_ _ _ _} _ _ i j {_} r c=>by
   rw [PyData.canLayAll0,Bool.and_eq_true] at c
   cases r with
   | cons r rs=>
     obtain ⟨as,q⟩:=i r c.1
     obtain ⟨bs,qs⟩:=j rs c.2
     exact ⟨_,.cons q qs⟩) h
end
theorem cv.len {K:PySem.W.Frag} {H:Hp}:∀ {xs:List V} {ds:List D},cv K H xs ds->xs.length=ds.length
 | _,_,.nil=>rfl
 | _,_,.cons _ t=>by rw [List.length_cons,List.length_cons,cv.len t]
theorem cv.get {K:PySem.W.Frag} {H:Hp}:∀ {xs:List V} {ds:List D} {i:Nat} {d:D},cv K H xs ds->ds[i]?=some d->∃ x,xs[i]?=some x /\ HD K H x d
 | _,_,_,_,.nil,e=>by simp at e
 | _,_,0,_,.cons r _,e=>by simp at e; subst e; exact ⟨_,rfl,r⟩
 | _,_,i + 1,y,.cons _ t,e=>by
   obtain ⟨u,h1,h2⟩:=cv.get (i:=i) (d:=y) t (by simpa using e)
   exact ⟨u,by simpa using h1,h2⟩
theorem cv.app {K:PySem.W.Frag} {H:Hp}:∀ {xs WM:List V} {ds PB:List D},cv K H xs ds->cv K H WM PB->cv K H (xs ++ WM) (ds ++ PB)
 | _,_,_,_,.nil,s=>s
 | _,_,_,_,.cons r t,s=>.cons r (cv.app t s)
theorem cv.H8 {K:PySem.W.Frag} {H:Hp}:∀ {xs:List V} {ds:List D} (n:Nat),cv K H xs ds->cv K H (xs.take n) (ds.take n)
 | _,_,0,_=>.nil
 | _,_,_ + 1,.nil=>.nil
 | _,_,n + 1,.cons r t=>.cons r (cv.H8 n t)
theorem cv.Ia {K:PySem.W.Frag} {H:Hp}:∀ {xs:List V} {ds:List D} (n:Nat),cv K H xs ds->cv K H (xs.drop n) (ds.drop n)
 | _,_,0,r=>r
 | _,_,_ + 1,.nil=>.nil
 | _,_,n + 1,.cons _ t=>cv.Ia n t
theorem cv.ints {K:PySem.W.Frag} {H:Hp}:∀ ns:List Int,cv K H (ns.map V.int) (ns.map PyData.int)
 | []=>.nil
 | n :: ns=>.cons (.int n) (cv.ints ns)
theorem sU {H:Hp} {A:List Addr} {a:Addr} {xs:List V} (h:dw H a xs) (al:Ls A H):dw (wo H A) a xs:=by
 rcases h with h | ⟨ob,h⟩
 ·refine .inl ?_
  rw [cj fun z=>?_]; exact h
  obtain ⟨o,e,q⟩:=al.1 a z
  rw [h] at e; cases e; exact q
 ·refine .inr ⟨ob,?_⟩
  rw [cj fun z=>?_]; exact h
  obtain ⟨o,e,q⟩:=al.1 a z
  rw [h] at e; cases e; exact q
mutual
def xl:D->Bool
 | .list _=>false
 | .dict _=>false
 | .tuple ds=>nG ds
 | _=>true
def nG:List D->Bool
 | []=>true
 | d :: ds=>xl d && nG ds
end
theorem HD.off {K:PySem.W.Frag} {H:Hp} {A:List Addr} (al:Ls A H) {x:V} {d:D} (h:HD K H x d):xl d=true->HD K (wo H A) x d:=
 HD.rec (motive_1:=fun x d _=>xl d=true->HD K (wo H A) x d) (motive_2:=fun x d _=>nG d=true->cv K (wo H A) x d) (fun _=>.h8) (fun b _=>.bl b) (fun b _=>.int b) (fun b _=>.str b) (fun _ _ _ f=>by rw [xl] at f; cases f) (fun hq _ i f=>.tup (sU hq al) (i (by rw [xl] at f; exact f))) (fun _ _ _ _ f=>by rw [xl] at f; cases f) (fun _ f=>by rw [xl] at f; cases f) (fun _=>.nil) (fun _ _ i j f=>by rw [nG,Bool.and_eq_true] at f; exact .cons (i f.1) (j f.2)) h
theorem cv.off {K:PySem.W.Frag} {H:Hp} {A:List Addr} (al:Ls A H) {x:List V} {d:List D} (h:cv K H x d):nG d=true->cv K (wo H A) x d:=
 cv.rec (motive_1:=fun x d _=>xl d=true->HD K (wo H A) x d) (motive_2:=fun x d _=>nG d=true->cv K (wo H A) x d) (fun _=>.h8) (fun b _=>.bl b) (fun b _=>.int b) (fun b _=>.str b) (fun _ _ _ f=>by rw [xl] at f; cases f) (fun hq _ i f=>.tup (sU hq al) (i (by rw [xl] at f; exact f))) (fun _ _ _ _ f=>by rw [xl] at f; cases f) (fun _ f=>by rw [xl] at f; cases f) (fun _=>.nil) (fun _ _ i j f=>by rw [nG,Bool.and_eq_true] at f; exact .cons (i f.1) (j f.2)) h
inductive xI (K:PySem.W.Frag) (H:Hp):HO->D->Prop
 | lst {ys:List V} {ds:List D}:cv K H ys ds->xI K H (.lst ys) (.list ds)
 | qO {aQ:List (List Key×V)} {kds:List (D×D)}:kds.map (·.1)=aQ.map (fun p=>PyData.tuple (p.1.map mN))->cv K H (aQ.map (·.2)) (kds.map (·.2))->xI K H (.dT aQ) (.dict kds)
theorem xI.same {K:PySem.W.Frag} {H H':Hp} {o:HO} {d:D} (s:aH H H') (h:xI K H o d):xI K H' o d:=by
 cases h with
 | lst q=>exact .lst (q.same s)
 | qO k q=>exact .qO k (q.same s)
theorem xI.own {K:PySem.W.Frag} {H:Hp} {o:HO} {d:D} (h:xI K H o d):FK o:=by cases h <;> trivial
theorem xI.hd {K:PySem.W.Frag} {H:Hp} {o:HO} {d:D} {l:Addr} (h:xI K H o d) (e:H l=some o):HD K H (.ref l) d:=by
 cases h with
 | lst q=>exact .lst (.of e) q
 | qO k q=>exact .qO e k q
def AV:List (D×D)->Bool
 | (.list [],_) :: _=>true
 | _=>false
def ia (K:PySem.W.Frag) (A:List Addr) (H:Hp) (v:V) (d:D):Prop:=HD K (wo H A) v d \/ ∃ l o,v=.ref l /\ H l=some o /\ xI K (wo H A) o d
section
variable {K:PySem.W.Frag} {H H':Hp} {A A':List Addr} {v:V} {d:D}
theorem ia.of (h:HD K (wo H A) v d):ia K A H v d:=.inl h
theorem ia.same (s:aH H H') (h:ia K A H v d):ia K A H' v d:=by
 rcases h with h | ⟨l,o,rfl,e,q⟩
 ·exact .inl (h.same (cq s))
 ·exact .inr ⟨l,o,rfl,s _ _ e,q.same (cq s)⟩
theorem ia.FL (h:ia K A H v d):HD K H v d:=by
 rcases h with h | ⟨l,o,rfl,e,q⟩
 ·exact h.same cb
 ·exact (q.same cb).hd e
theorem ia.list {ds:List D} (h:ia K A H v (.list ds)):∃ l ys,v=.ref l /\ xk K H l ys /\ cv K (wo H A) ys ds:=by
 rcases h with h | ⟨l,o,rfl,e,q⟩
 ·cases h with
  | lst hq h=>exact ⟨_,_,rfl,hq.same cb,h⟩
 ·cases q with
  | lst q=>exact ⟨l,_,rfl,.of e,q⟩
theorem ia.MN {ds:List D} (h:ia K A H v (.tuple ds)):∃ l ys,v=.ref l /\ dw H l ys /\ cv K (wo H A) ys ds:=by
 rcases h with h | ⟨l,o,rfl,e,q⟩
 ·cases h with
  | tup hq h=>exact ⟨_,_,rfl,cb.lH hq,h⟩
 ·cases q
theorem ia.tuple {ds:List D} (h:ia K A H v (.tuple ds)):∃ l ys,v=.ref l /\ jn K H l ys /\ cv K (wo H A) ys ds:=
 let ⟨l,ys,a,b,c⟩:=h.MN; ⟨l,ys,a,.inl b,c⟩
theorem ia.dict {kds:List (D×D)} (h:ia K A H v (.dict kds)) (hf:AV kds=false):∃ l aQ,v=.ref l /\ H l=some (.dT aQ) /\ kds.map (·.1)=aQ.map (fun p=>PyData.tuple (p.1.map mN)) /\ cv K (wo H A) (aQ.map (·.2)) (kds.map (·.2)):=by
 rcases h with h | ⟨l,o,rfl,e,q⟩
 ·cases h with
  | qO hq k h=>exact ⟨_,_,rfl,cb _ _ hq,k,h⟩
  | fn hq=>cases hf
 ·cases q with
  | qO k q=>exact ⟨l,_,rfl,e,k,q⟩
theorem ia.fz {ds:List D} (h:ia K A H v (.tuple ds)):HD K (wo H A) v (.tuple ds):=by
 rcases h with h | ⟨l,o,rfl,e,q⟩
 ·exact h
 ·cases q
theorem ia.int {i:Int} (h:ia K A H v (.int i)):v=.int i:=by
 rcases h with h | ⟨l,o,rfl,e,q⟩
 ·cases h; rfl
 ·cases q
theorem ia.bool {b:Bool} (h:ia K A H v (.bool b)):v=.bl b:=by
 rcases h with h | ⟨l,o,rfl,e,q⟩
 ·cases h; rfl
 ·cases q
theorem ia.str {b:Str} (h:ia K A H v (.str b)):v=.str b:=by
 rcases h with h | ⟨l,o,rfl,e,q⟩
 ·cases h; rfl
 ·cases q
theorem ia.h8 (h:ia K A H v .none):v=.h8:=by
 rcases h with h | ⟨l,o,rfl,e,q⟩
 ·cases h; rfl
 ·cases q
end
structure Rel (K:PySem.W.Frag) (O:List Nat) (U A0:List Addr) (σ:St) (δ:DS) (H:Hp):Prop where
 len:σ.length=δ.length
 fz:∀ (i:Nat) d,i∉O->δ[i]?=some (some d)->∃ v,σ[i]?=some (some v) /\ HD K (wo H (U ++ A0)) v d
 ow:∀ (i:Nat) d,i∈O->δ[i]?=some (some d)->∃ l o,σ[i]?=some (some (.ref l)) /\ l∈U /\ H l=some o /\ xI K (wo H (U ++ A0)) o d
 inj:∀ (i j:Nat) d e l,i∈O->j∈O->i≠j->δ[i]?=some (some d)->δ[j]?=some (some e)->σ[i]?=some (some (.ref l))->σ[j]?=some (some (.ref l))->False
 al:Ls (U ++ A0) H
section
variable {K:PySem.W.Frag} {O:List Nat} {U A0:List Addr} {σ:St} {δ:DS} {H H':Hp}
theorem Rel.same (R:Rel K O U A0 σ δ H) (s:aH H H'):Rel K O U A0 σ δ H' where
 len:=R.len
 fz:=fun i d hi e=>let ⟨v,a,b⟩:=R.fz i d hi e; ⟨v,a,b.same (cq s)⟩
 ow:=fun i d hi e=>let ⟨l,o,a,c,f,g⟩:=R.ow i d hi e; ⟨l,o,a,c,s _ _ f,g.same (cq s)⟩
 inj:=R.inj
 al:=R.al.same s
theorem Rel.WN (R:Rel K O U A0 σ δ H) (i:Nat) (d:D) (hi:i∈O) (e:δ[i]?=some (some d)):(∃ l ys ds,σ[i]?=some (some (.ref l)) /\ d=.list ds /\ l∈U /\ H l=some (.lst ys) /\ cv K (wo H (U ++ A0)) ys ds) \/ ∃ kds,d=.dict kds:=by
 obtain ⟨l,o,a,c,f,g⟩:=R.ow i d hi e
 cases g with
 | lst q=>exact .inl ⟨l,_,_,a,rfl,c,f,q⟩
 | qO k q=>exact .inr ⟨_,rfl⟩
theorem Rel.at (R:Rel K O U A0 σ δ H) {i:Nat} {d:D} (e:δ[i]?=some (some d)):∃ v,σ[i]?=some (some v) /\ ia K (U ++ A0) H v d:=by
 by_cases hi:i∈O
 ·obtain ⟨l,o,a,c,f,g⟩:=R.ow i d hi e
  exact ⟨_,a,.inr ⟨l,o,rfl,f,g⟩⟩
 ·obtain ⟨v,a,b⟩:=R.fz i d hi e
  exact ⟨v,a,.inl b⟩
theorem Rel.set (R:Rel K O U A0 σ δ H) {i:Nat} {v:V} {d:D} (hi:i∉O) (h:HD K (wo H (U ++ A0)) v d):Rel K O U A0 (σ.set i (some v)) (δ.set i (some d)) H where
 len:=by rw [List.length_set,List.length_set]; exact R.len
 fz:=fun j e hj q=>by
  by_cases i8:i=j
  ·subst i8
   have hl:i < δ.length:=by have:=(List.getElem?_eq_some_iff.mp q).1; rwa [List.length_set] at this
   rw [List.getElem?_set_self hl] at q
   cases q
   exact ⟨v,List.getElem?_set_self (by rw [R.len]; exact hl),h⟩
  ·rw [List.getElem?_set_ne i8] at q ⊢
   exact R.fz j e hj q
 ow:=fun j e hj q=>by
  have i8:i≠j:=fun z=>hi (z ▸ hj)
  rw [List.getElem?_set_ne i8] at q ⊢
  exact R.ow j e hj q
 inj:=fun j k d e l hj hk LI q1 q2 e1 e2=>by
  have i8:i≠j:=fun z=>hi (z ▸ hj)
  have Ib:i≠k:=fun z=>hi (z ▸ hk)
  rw [List.getElem?_set_ne i8] at q1 e1
  rw [List.getElem?_set_ne Ib] at q2 e2
  exact R.inj j k d e l hj hk LI q1 q2 e1 e2
 al:=R.al
theorem Rel.MO (R:Rel K O U A0 σ δ H) (s:aH H H') {i:Nat} {r:Addr} {ob:HO} {db:D} (hr:H r=none) (h:H' r=some ob) (q:xI K (wo H' (r :: (U ++ A0))) ob db) (hi:i∈O):
  Rel K O (r :: U) A0 (σ.set i (some (.ref r))) (δ.set i (some db)) H' where
 len:=by rw [List.length_set,List.length_set]; exact R.len
 fz:=fun j e hj q=>by
  have i8:i≠j:=fun z=>hj (z ▸ hi)
  rw [List.getElem?_set_ne i8] at q ⊢
  obtain ⟨v,a,b⟩:=R.fz j e hj q
  exact ⟨v,a,b.same (zB s hr)⟩
 ow:=fun j e hj w=>by
  by_cases i8:i=j
  ·subst i8
   have hl:i < δ.length:=by have:=(List.getElem?_eq_some_iff.mp w).1; rwa [List.length_set] at this
   rw [List.getElem?_set_self hl] at w
   cases w
   exact ⟨r,ob,List.getElem?_set_self (by rw [R.len]; exact hl),by simp,h,q⟩
  ·rw [List.getElem?_set_ne i8] at w ⊢
   obtain ⟨l,o,a,c,f,g⟩:=R.ow j e hj w
   exact ⟨l,o,a,by simp [c],s _ _ f,g.same (zB s hr)⟩
 inj:=fun j k d e l hj hk LI q1 q2 e1 e2=>by
  have MP:∀ {x:D},(δ.set i (some db))[i]?=some (some x)->i < δ.length:=fun w=>by have:=(List.getElem?_eq_some_iff.mp w).1; rwa [List.length_set] at this
  by_cases i8:i=j
  ·subst i8
   have Ib:i≠k:=LI
   rw [List.getElem?_set_self (by rw [R.len]; exact MP q1)] at e1
   rw [List.getElem?_set_ne Ib] at q2 e2
   cases e1
   obtain ⟨l,o,a,c,f,g⟩:=R.ow k e hk q2
   rw [a] at e2; cases e2
   rw [hr] at f; cases f
  ·by_cases Ib:i=k
   ·subst Ib
    rw [List.getElem?_set_self (by rw [R.len]; exact MP q2)] at e2
    rw [List.getElem?_set_ne i8] at q1 e1
    cases e2
    obtain ⟨l,o,a,c,f,g⟩:=R.ow j d hj q1
    rw [a] at e1; cases e1
    rw [hr] at f; cases f
   ·rw [List.getElem?_set_ne i8] at q1 e1
    rw [List.getElem?_set_ne Ib] at q2 e2
    exact R.inj j k d e l hj hk LI q1 q2 e1 e2
 al:=⟨fun a ha=>by
  rcases List.mem_append.mp ha with z | z
  ·rcases List.mem_cons.mp z with z | z
   ·subst z; exact ⟨ob,h,q.own⟩
   ·exact (R.al.same s).1 a (List.mem_append_left _ z)
  ·exact (R.al.same s).1 a (List.mem_append_right _ z),(R.al.same s).2⟩
theorem Rel.PC (R:Rel K O U A0 σ δ H) (s:aH H H') {i:Nat} {r:Addr} {ys:List V} {ds:List D} (hr:H r=none) (h:H' r=some (.lst ys)) (q:cv K (wo H' (r :: (U ++ A0))) ys ds) (hi:i∈O):
  Rel K O (r :: U) A0 (σ.set i (some (.ref r))) (δ.set i (some (.list ds))) H':=R.MO s hr h (.lst q) hi
theorem Rel.MQ (R:Rel K O U A0 σ δ H) {i:Nat} {l:Addr} {ob:HO} {db:D} (hi:i∈O) (hl:σ[i]?=some (some (.ref l))) (hU:l∈U) (q:xI K (wo H (U ++ A0)) ob db) (hd:∃ d,δ[i]?=some (some d)):
  Rel K O U A0 σ (δ.set i (some db)) (upd H l ob):=by
 have hw:wo (upd H l ob) (U ++ A0)=wo H (U ++ A0):=Cz (List.mem_append_left _ hU)
 obtain ⟨d0,hd⟩:=hd
 have hlen:i < δ.length:=(List.getElem?_eq_some_iff.mp hd).1
 exact {
  len:=by rw [List.length_set]; exact R.len
  fz:=fun j e hj w=>by
   have i8:i≠j:=fun z=>hj (z ▸ hi)
   rw [List.getElem?_set_ne i8] at w
   rw [hw]
   exact R.fz j e hj w
  ow:=fun j e hj w=>by
   rw [hw]
   by_cases i8:i=j
   ·subst i8
    rw [List.getElem?_set_self hlen] at w
    cases w
    exact ⟨l,ob,hl,hU,bR,q⟩
   ·rw [List.getElem?_set_ne i8] at w
    obtain ⟨l',o',a,c,f,g⟩:=R.ow j e hj w
    have iJ:l'≠l:=by
     intro z; subst z
     exact R.inj i j d0 e _ hi hj i8 hd w hl a
    exact ⟨l',o',a,c,by rw [aR iJ]; exact f,g⟩
  inj:=fun j k d e l hj hk LI q1 q2 e1 e2=>by
   have f:∀ {m:Nat} {x:D},(δ.set i (some db))[m]?=some (some x)->∃ y,δ[m]?=some (some y):=by
    intro m x w
    by_cases WO:i=m
    ·subst WO; exact ⟨d0,hd⟩
    ·rw [List.getElem?_set_ne WO] at w; exact ⟨x,w⟩
   obtain ⟨y1,w1⟩:=f q1
   obtain ⟨y2,w2⟩:=f q2
   exact R.inj j k y1 y2 l hj hk LI w1 w2 e1 e2
  al:=⟨fun a ha=>by
   by_cases e:a=l
   ·subst e; exact ⟨ob,bR,q.own⟩
   ·rw [aR e]; exact R.al.1 a ha,fun p xs m=>
    let ⟨_,e,w⟩:=R.al.1 l (List.mem_append_left _ hU)
    (R.al.2.1 p xs m).ne ((R.al.2.1 p xs m).apart e w),fun p y q m=>by
    obtain ⟨_,e,w⟩:=R.al.1 l (List.mem_append_left _ hU)
    rw [aR fun z=>?_]
    ·exact R.al.2.2 p y q m
    ·have t:=R.al.2.2 p y q m
     rw [z,e] at t; cases t; exact w⟩ }
theorem Rel.put (R:Rel K O U A0 σ δ H) {i:Nat} {l:Addr} {ys:List V} {ds:List D} (hi:i∈O) (hl:σ[i]?=some (some (.ref l))) (hU:l∈U) (q:cv K (wo H (U ++ A0)) ys ds) (hd:∃ d,δ[i]?=some (some d)):
  Rel K O U A0 σ (δ.set i (some (.list ds))) (upd H l (.lst ys)):=R.MQ hi hl hU (.lst q) hd
end
structure Fx (H0:Hp) (A0 U:List Addr) (H:Hp):Prop where
 same:aH H0 H
 new:∀ a∈U,H0 a=none
 old:Ls A0 H0
section
variable {K:PySem.W.Frag} {O:List Nat} {U U' A0:List Addr} {σ:St} {δ:DS} {H0 H H':Hp}
theorem Fx.grow (F:Fx H0 A0 U H) (s:aH H H'):Fx H0 A0 U H':=⟨F.same.trans s,F.new,F.old⟩
theorem Fx.more (F:Fx H0 A0 U H) (s:aH H H') {r:Addr} (hr:H r=none):Fx H0 A0 (r :: U) H':=⟨F.same.trans s,fun a ha=>by
 rcases List.mem_cons.mp ha with z | z
 ·subst z; exact F.same.free hr
 ·exact F.new a z,F.old⟩
theorem Fx.put (F:Fx H0 A0 U H) {l:Addr} (hl:l∈U) (o:HO):Fx H0 A0 U (upd H l o):=⟨F.same.upd (F.new l hl) o,F.new,F.old⟩
theorem Fx.out (F:Fx H0 A0 U H) {l:Addr} (hl:l∈U):l∉A0:=fun z=>by
 obtain ⟨ys,e,_⟩:=F.old.1 l z
 rw [F.new l hl] at e; cases e
theorem Fx.here (F:Fx H0 A0 U H):Fx (wo H U) A0 U H:=⟨cb,fun _ h=>j7 h,fun a ha=>by
 obtain ⟨ys,e,q⟩:=F.old.1 a ha
 refine ⟨ys,?_,q⟩
 rw [cj fun z=>?_]
 ·exact F.same _ _ e
 ·exact F.out z ha,fun p xs m=>(F.same.lH (F.old.2.1 p xs m)).wo fun z=>(by
 rcases F.old.2.1 p xs m with t | ⟨ob,t⟩ <;> rw [F.new p z] at t <;> cases t),fun p y q m=>by
 rw [cj fun z=>?_]
 ·exact F.same _ _ (F.old.2.2 p y q m)
 ·have t:=F.old.2.2 p y q m
  rw [F.new p z] at t; cases t⟩
theorem Fx.trans (F:Fx H0 A0 U H) (G:Fx (wo H U) A0 U' H'):Fx H0 A0 U' H':=by
 have k:∀ a o,H0 a=some o->wo H U a=some o:=fun a o e=>by
  rw [cj fun z=>?_]
  ·exact F.same _ _ e
  ·rw [F.new a z] at e; cases e
 refine ⟨fun a o e=>G.same _ _ (k a o e),fun a ha=>?_,F.old⟩
 cases e:H0 a with
 | none=>rfl
 | some o=>
   have:=G.new a ha
   rw [k a o e] at this; cases this
theorem Fx.keeps (G:Fx (wo H U) A0 U' H'):aH (wo H (U ++ A0)) (wo H' (U' ++ A0)):=fun b o e=>by
 obtain ⟨h1,h2⟩:=kB e
 simp only [List.mem_append,not_or] at h1
 have h3:wo H U b=some o:=by rw [cj h1.1]; exact h2
 rw [cj]
 ·exact G.same _ _ h3
 ·simp only [List.mem_append,not_or]
  refine ⟨fun z=>?_,h1.2⟩
  rw [G.new b z] at h3; cases h3
end
def tE (K:PySem.W.Frag) (O:List Nat) (g:DS->Option D):TE:=fun σ H Q=>∃ U A0 δ d,Rel K O U A0 σ δ H /\ g δ=some d /\ ∀ v H',aH H H'->HD K (wo H' (U ++ A0)) v d->Q v H'
theorem tE.e {K:PySem.W.Frag} {O:List Nat} {g:DS->Option D}  {σ:_} {H:_} {Q:_} {GG:Prop} (hh:tE K O g σ H Q) (kk:∀ U A0 δ d,(Rel K O U A0 σ δ H)->(g δ=some d)->(∀ v H',aH H H'->HD K (wo H' (U ++ A0)) v d->Q v H')->GG):GG:=by obtain ⟨U,A0,δ,d,x0,x1,x2⟩:=hh; exact kk U A0 δ d x0 x1 x2
def jl (K:PySem.W.Frag) (O:List Nat) (g:DS->Option D):TE:=fun σ H Q=>∃ U A0 δ d,Rel K O U A0 σ δ H /\ g δ=some d /\ ∀ v H',aH H H'->ia K (U ++ A0) H' v d->Q v H'
theorem jl.e {K:PySem.W.Frag} {O:List Nat} {g:DS->Option D}  {σ:_} {H:_} {Q:_} {GG:Prop} (hh:jl K O g σ H Q) (kk:∀ U A0 δ d,(Rel K O U A0 σ δ H)->(g δ=some d)->(∀ v H',aH H H'->ia K (U ++ A0) H' v d->Q v H')->GG):GG:=by obtain ⟨U,A0,δ,d,x0,x1,x2⟩:=hh; exact kk U A0 δ d x0 x1 x2
def tN (K:PySem.W.Frag) (O:List Nat) (g:DS->Option (List D)):TE:=fun σ H Q=>∃ U A0 δ ds,Rel K O U A0 σ δ H /\ g δ=some ds /\
 ∀ r ys H',aH H H'->H r=none->H' r=some (.lst ys)->cv K (wo H' (r :: (U ++ A0))) ys ds->Q (.ref r) H'
theorem tN.e {K:PySem.W.Frag} {O:List Nat} {g:DS->Option (List D)}  {σ:_} {H:_} {Q:_} {GG:Prop} (hh:tN K O g σ H Q) (kk:∀ U A0 δ ds,(Rel K O U A0 σ δ H)->(g δ=some ds)->(∀ r ys H',aH H H'->H r=none->H' r=some (.lst ys)->cv K (wo H' (r :: (U ++ A0))) ys ds->Q (.ref r) H')->GG):GG:=by obtain ⟨U,A0,δ,ds,x0,x1,x2⟩:=hh; exact kk U A0 δ ds x0 x1 x2
def tT (K:PySem.W.Frag) (O:List Nat) (g:DS->Option Bool):TT:=fun σ H Q=>∃ U A0 δ b,Rel K O U A0 σ δ H /\ g δ=some b /\ ∀ H',aH H H'->Q b H'
theorem tT.e {K:PySem.W.Frag} {O:List Nat} {g:DS->Option Bool}  {σ:_} {H:_} {Q:_} {GG:Prop} (hh:tT K O g σ H Q) (kk:∀ U A0 δ b,(Rel K O U A0 σ δ H)->(g δ=some b)->(∀ H',aH H H'->Q b H')->GG):GG:=by obtain ⟨U,A0,δ,b,x0,x1,x2⟩:=hh; exact kk U A0 δ b x0 x1 x2
def AW (K:PySem.W.Frag) (O:List Nat) (g:DS->Option (List D)):TA:=fun σ H Q=>∃ U A0 δ ds,Rel K O U A0 σ δ H /\ g δ=some ds /\ ∀ vs H',aH H H'->cv K (wo H' (U ++ A0)) vs ds->Q vs H'
theorem AW.e {K:PySem.W.Frag} {O:List Nat} {g:DS->Option (List D)}  {σ:_} {H:_} {Q:_} {GG:Prop} (hh:AW K O g σ H Q) (kk:∀ U A0 δ ds,(Rel K O U A0 σ δ H)->(g δ=some ds)->(∀ vs H',aH H H'->cv K (wo H' (U ++ A0)) vs ds->Q vs H')->GG):GG:=by obtain ⟨U,A0,δ,ds,x0,x1,x2⟩:=hh; exact kk U A0 δ ds x0 x1 x2
def pK (K:PySem.W.Frag) (A:List Addr) (H:Hp):List V->List D->Prop:=Paired (ia K A H)
def oM (K:PySem.W.Frag) (O:List Nat) (g:DS->Option (List D)):TA:=fun σ H Q=>∃ U A0 δ ds,Rel K O U A0 σ δ H /\ g δ=some ds /\ ∀ vs H',aH H H'->pK K (U ++ A0) H' vs ds->Q vs H'
theorem oM.e {K:PySem.W.Frag} {O:List Nat} {g:DS->Option (List D)}  {σ:_} {H:_} {Q:_} {GG:Prop} (hh:oM K O g σ H Q) (kk:∀ U A0 δ ds,(Rel K O U A0 σ δ H)->(g δ=some ds)->(∀ vs H',aH H H'->pK K (U ++ A0) H' vs ds->Q vs H')->GG):GG:=by obtain ⟨U,A0,δ,ds,x0,x1,x2⟩:=hh; exact kk U A0 δ ds x0 x1 x2
inductive Res where
 | nx (δ:DS) | rt (d:D) | bk (δ:DS) | ct (δ:DS)
def oN (K:PySem.W.Frag) (fr:Bool) (H0:Hp) (A0:List Addr) (v:V) (d:D) (H':Hp):Prop:=
 if fr=true then ∃ r o,v=.ref r /\ aH H0 H' /\ H0 r=none /\ H' r=some o /\ xI K (wo H' (r :: A0)) o d else aH H0 H' /\ HD K (wo H' A0) v d
def MR (K:PySem.W.Frag) (O:List Nat) (fr:Bool) (H0:Hp) (A0:List Addr) (E:Ends):Res->Prop
 | .nx δ=>∀ U σ H,Rel K O U A0 σ δ H->Fx H0 A0 U H->E.nx σ H
 | .bk δ=>∀ U σ H,Rel K O U A0 σ δ H->Fx H0 A0 U H->E.bk σ H
 | .ct δ=>∀ U σ H,Rel K O U A0 σ δ H->Fx H0 A0 U H->E.ct σ H
 | .rt d=>∀ v H,oN K fr H0 A0 v d H->E.rt v H
def tS (K:PySem.W.Frag) (O:List Nat) (fr:Bool) (g:DS->Option Res):TS:=fun E σ H=>∃ H0 U A0 δ r,Rel K O U A0 σ δ H /\ Fx H0 A0 U H /\ g δ=some r /\ MR K O fr H0 A0 E r
theorem tS.e {K:PySem.W.Frag} {O:List Nat} {fr:Bool} {g:DS->Option Res}  {E:_} {σ:_} {H:_} {GG:Prop} (hh:tS K O fr g E σ H) (kk:∀ H0 U A0 δ r,(Rel K O U A0 σ δ H)->(Fx H0 A0 U H)->(g δ=some r)->(MR K O fr H0 A0 E r)->GG):GG:=by obtain ⟨H0,U,A0,δ,r,x0,x1,x2,x3⟩:=hh; exact kk H0 U A0 δ r x0 x1 x2 x3
def Walks (K:PySem.W.Frag) (A:List Addr) (H1:Hp) (J:It) (ds:List D):Prop:=∀ (A':List Addr) (i:Nat) (H:Hp),aH (wo H1 A) (wo H A')->Ls A' H->
 (∀ d,ds[i]?=some d->J.go i H /\ ∀ x H2,J.Mm i H x H2->aH H H2 /\ HD K (wo H2 A') x d) /\ (i=ds.length->J.stop i H)
def tI (K:PySem.W.Frag) (O:List Nat) (g:DS->Option (List D)):TI:=fun σ H R=>∃ U A0 δ ds,Rel K O U A0 σ δ H /\ g δ=some ds /\ ∀ J H1,aH H H1->Walks K (U ++ A0) H1 J ds->R J H1
theorem tI.e {K:PySem.W.Frag} {O:List Nat} {g:DS->Option (List D)}  {σ:_} {H:_} {R:_} {GG:Prop} (hh:tI K O g σ H R) (kk:∀ U A0 δ ds,(Rel K O U A0 σ δ H)->(g δ=some ds)->(∀ J H1,aH H H1->Walks K (U ++ A0) H1 J ds->R J H1)->GG):GG:=by obtain ⟨U,A0,δ,ds,x0,x1,x2⟩:=hh; exact kk U A0 δ ds x0 x1 x2
def tG (K:PySem.W.Frag) (O:List Nat) (g:D->DS->Option DS):TG:=fun v σ H Q=>∃ U A0 δ d δ',Rel K O U A0 σ δ H /\ HD K (wo H (U ++ A0)) v d /\ g d δ=some δ' /\ ∀ cZ,Rel K O U A0 cZ δ' H->Q cZ H
theorem tG.e {K:PySem.W.Frag} {O:List Nat} {g:D->DS->Option DS}  {v:_} {σ:_} {H:_} {Q:_} {GG:Prop} (hh:tG K O g v σ H Q) (kk:∀ U A0 δ d δ',(Rel K O U A0 σ δ H)->(HD K (wo H (U ++ A0)) v d)->(g d δ=some δ')->(∀ cZ,Rel K O U A0 cZ δ' H->Q cZ H)->GG):GG:=by obtain ⟨U,A0,δ,d,δ',x0,x1,x2,x3⟩:=hh; exact kk U A0 δ d δ' x0 x1 x2 x3
section
variable {X:Cx}
theorem PE.mono {e:Expr} {t t':TE} (h:PE X e t) (m:∀ σ H Q,t' σ H Q->t σ H Q):PE X e t':=fun pins s σ H Q I q=>h pins s σ H Q I (m σ H Q q)
theorem PT.mono {e:Expr} {t t':TT} (h:PT X e t) (m:∀ σ H Q,t' σ H Q->t σ H Q):PT X e t':=fun pins s σ H Q I q=>h pins s σ H Q I (m σ H Q q)
theorem PW.mono {e:Expr} {t t':TT} (h:PW X e t) (m:∀ σ H Q,t' σ H Q->t σ H Q):PW X e t':=fun w pins s σ H Q I q=>h w pins s σ H Q I (m σ H Q q)
theorem PA.mono {e:List Expr} {t t':TA} (h:PA X e t) (m:∀ σ H Q,t' σ H Q->t σ H Q):PA X e t':=fun pos pins s σ H Q I q=>h pos pins s σ H Q I (m σ H Q q)
theorem PS.mono {e:Stmt} {t t':TS} (h:PS X e t) (m:∀ E σ H,t' E σ H->t E σ H):PS X e t':=fun pins s σ H E I q=>h pins s σ H E I (m E σ H q)
theorem mE.mono {e:List Stmt} {t t':TS} (h:mE X e t) (m:∀ E σ H,t' E σ H->t E σ H):mE X e t':=fun pins s σ H E I q=>h pins s σ H E I (m E σ H q)
theorem PI.mono {tg e:Expr} {t t':TI} (h:PI X tg e t) (m:∀ σ H R,t' σ H R->t σ H R):PI X tg e t':=fun pins s σ H R I q=>h pins s σ H R I (m σ H R q)
theorem PG.mono {e:Expr} {t t':TG} (h:PG X e t) (m:∀ v σ H Q,t' v σ H Q->t v σ H Q):PG X e t':=fun pins s σ H v u Q I r q=>h pins s σ H v u Q I r (m v σ H Q q)
theorem PO.mono {e:Option Expr} {t t':TO} (h:PO X e t) (m:∀ σ H Q,t' σ H Q->t σ H Q):PO X e t':=fun pins s σ H Q I q=>h pins s σ H Q I (m σ H Q q)
end
def ae (i:Nat):DS->Option D:=fun δ=>(δ[i]?).join
def gC (d:D):DS->Option D:=fun _=>some d
def bQ (g:DS->Option (List D)):DS->Option D:=fun δ=>(g δ).map .list
theorem join_some {α:Type} {o:Option (Option α)} {d:α} (h:o.join=some d):o=some (some d):=by
 cases o with
 | none=>cases h
 | some p=>cases p with
   | none=>cases h
   | some q=>cases h; rfl
section
variable {X:Cx} {O:List Nat} {e:Expr} {g:DS->Option D}
theorem ao {i:Nat} (h:PE X e (uX i)) (hi:i∉O:=by decide):PE X e (tE X.K O (ae i)):=h.mono fun σ H Q hh=>hh.e fun U A0 δ d R ed q=>by
 obtain ⟨v,hv,hd⟩:=R.fz i d hi (join_some ed)
 exact ⟨v,hv,q v H (aH.refl H) hd⟩
theorem af {i:Nat} (h:PE X e (uX i)):PE X e (jl X.K O (ae i)):=h.mono fun σ H Q hh=>hh.e fun U A0 δ d R ed q=>by
 obtain ⟨v,hv,hd⟩:=R.at (join_some ed)
 exact ⟨v,hv,q v H (aH.refl H) hd⟩
theorem JN {v:V} {d:D} (h:PE X e (tC v)) (hd:∀ H,HD X.K H v d):PE X e (tE X.K O (gC d)):=h.mono fun σ H Q hh=>hh.e fun U A0 δ d' R ed q=>by
 cases ed
 exact q v H (aH.refl H) (hd _)
theorem ag {i:Int} (h:PE X e (tC (.int i))):PE X e (tE X.K O (gC (.int i))):=JN h fun _=>.int i
theorem ls {i:Bool} (h:PE X e (tC (.bl i))):PE X e (tE X.K O (gC (.bool i))):=JN h fun _=>.bl i
theorem xJ {i:Str} (h:PE X e (tC (.str i))):PE X e (tE X.K O (gC (.str i))):=JN h fun _=>.str i
theorem PE.sh (h:PE X e (tE X.K O g)):PE X e (jl X.K O g):=h.mono fun σ H Q hh=>hh.e fun U A0 δ d R ed q=>⟨U,A0,δ,d,R,ed,fun v H' s z=>q v H' s (.inl z)⟩
theorem Ic {K:PySem.W.Frag} {g:DS->Option (List D)} {σ:St} {H:Hp} {Q:VK}:tE K O (bQ g) σ H Q->tN K O g σ H Q:=fun ⟨U,A0,δ,d,R,ed,q⟩=>by
 unfold bQ at ed
 cases eg:g δ with
 | none=>rw [eg] at ed; cases ed
 | some ds=>
   rw [eg] at ed; cases ed
   refine ⟨U,A0,δ,ds,R,eg,fun r ys H' s hr h1 h2=>q _ H' s ?_⟩
   have hn:=R.al.free hr
   exact .lst (.of (by rw [cj hn]; exact h1)) (h2.same (lI fun a ha=>List.mem_cons_of_mem _ ha))
theorem PE.nE {g:DS->Option (List D)} (h:PE X e (tN X.K O g)):PE X e (tE X.K O (bQ g)):=h.mono fun _ _ _=>Ic
end
def g2 (f:D->D->Option D) (a b:DS->Option D):DS->Option D:=fun δ=>(a δ).bind fun x=>(b δ).bind fun y=>f x y
def EY (f:D->D->Option (List D)) (a b:DS->Option D):DS->Option (List D):=fun δ=>(a δ).bind fun x=>(b δ).bind fun y=>f x y
def jo (K:PySem.W.Frag) (r:R2) (f:D->D->Option D):Prop:=∀ (A:List Addr) (H:Hp) (x y:V) (dx dy d:D) (Q:VK),Ls A H->ia K A H x dx->ia K A H y dy->f dx dy=some d->(∀ v H',aH H H'->HD K (wo H' A) v d->Q v H')->r x y H Q
def CA (K:PySem.W.Frag) (r:R2) (f:D->D->Option (List D)):Prop:=∀ (A:List Addr) (H:Hp) (x y:V) (dx dy:D) (ds:List D) (Q:VK),Ls A H->ia K A H x dx->ia K A H y dy->f dx dy=some ds->
 (∀ p ys,H p=none->cv K (wo H A) ys ds->Q (.ref p) (upd H p (.lst ys)))->r x y H Q
theorem zC {α β γ:Type} {a:Option α} {b:Option β} {f:α->β->Option γ} {d:γ} (h:(a.bind fun x=>b.bind fun y=>f x y)=some d):∃ x y,a=some x /\ b=some y /\ f x y=some d:=by
 cases a with
 | none=>cases h
 | some x=>cases b with
   | none=>cases h
   | some y=>exact ⟨x,y,rfl,rfl,h⟩
theorem bind1 {α β:Type} {a:Option α} {f:α->Option β} {d:β} (h:a.bind f=some d):∃ x,a=some x /\ f x=some d:=by
 cases a with
 | none=>cases h
 | some x=>exact ⟨x,rfl,h⟩
section
variable {X:Cx} {O:List Nat} {a b:Expr} {ga gb:DS->Option D} {pos:Pos} {r:R2}
theorem zD {K:PySem.W.Frag} {f:D->D->Option D} (imp:jo K r f) {σ:St} {H:Hp} {Q:VK}:tE K O (g2 f ga gb) σ H Q->LD r (jl K O ga) (jl K O gb) σ H Q:=fun ⟨U,A0,δ,d,R,ed,q⟩=>by
 obtain ⟨x,y,ex,ey,ef⟩:=zC ed
 exact ⟨U,A0,δ,x,R,ex,fun v1 H1 s1 h1=>⟨U,A0,δ,y,R.same s1,ey,fun v2 H2 s2 h2=>imp _ H2 v1 v2 x y d Q (R.same (s1.trans s2)).al (h1.same s2) h2 ef fun v H' s h=>q v H' ((s1.trans s2).trans s) h⟩⟩
theorem pL {K:PySem.W.Frag} {A:List Addr} {H H2:Hp} {ds:List D} {Q:VK} (s:aH H H2) (q:∀ r ys H',aH H H'->H r=none->H' r=some (.lst ys)->cv K (wo H' (r :: A)) ys ds->Q (.ref r) H'):∀ p ys,H2 p=none->cv K (wo H2 A) ys ds->Q (.ref p) (upd H2 p (.lst ys)):=
 fun p ys hp h=>q p ys _ (s.trans (cD hp _)) (s.free hp) bR (by rw [u9 hp]; exact h)
theorem MS {K:PySem.W.Frag} {f:D->D->Option (List D)} (imp:CA K r f) {σ:St} {H:Hp} {Q:VK}:tN K O (EY f ga gb) σ H Q->LD r (jl K O ga) (jl K O gb) σ H Q:=fun ⟨U,A0,δ,d,R,ed,q⟩=>by
 obtain ⟨x,y,ex,ey,ef⟩:=zC ed
 exact ⟨U,A0,δ,x,R,ex,fun v1 H1 s1 h1=>⟨U,A0,δ,y,R.same s1,ey,fun v2 H2 s2 h2=>imp _ H2 v1 v2 x y d Q (R.same (s1.trans s2)).al (h1.same s2) h2 ef (pL (s1.trans s2) q)⟩⟩
theorem au {op:Operator} {f:D->D->Option D} (ho:iV X (binaryOp op) r) (imp:jo X.K r f) (ha:PE X a (jl X.K O ga)) (hb:PE X b (jl X.K O gb)):PE X (.BinOp a op b pos) (tE X.K O (g2 f ga gb)):=(HM ho ha hb).mono fun _ _ _=>zD imp
theorem sV {op:Operator} {f:D->D->Option (List D)} (ho:iV X (binaryOp op) r) (imp:CA X.K r f) (ha:PE X a (jl X.K O ga)) (hb:PE X b (jl X.K O gb)):PE X (.BinOp a op b pos) (tN X.K O (EY f ga gb)):=(HM ho ha hb).mono fun _ _ _=>MS imp
theorem pM {op:CmpOp} {f:D->D->Option D} (ho:iV X (compareOp op) r) (imp:jo X.K r f) (ha:PE X a (jl X.K O ga)) (hb:PE X b (jl X.K O gb)) (hm:behindInMarks op b=false):PE X (.Compare a [op] [b] pos) (tE X.K O (g2 f ga gb)):=(Fm ho ha hb hm).mono fun _ _ _=>zD imp
def gB (g:DS->Option D):DS->Option Bool:=fun δ=>(g δ).bind fun | .bool b=>some b | _=>none
theorem MT {K:PySem.W.Frag} {g:DS->Option D} {te:TE} (m:∀ σ H Q,tE K O g σ H Q->te σ H Q) {σ:St} {H:Hp} {Q:Bool->Hp->Prop}:tT K O (gB g) σ H Q->te σ H fun x H'=>∃ k,x=.bl k /\ Q k H':=fun ⟨U,A0,δ,b,R,ed,q⟩=>by
 obtain ⟨d,e1,e2⟩:=bind1 ed
 cases d with
 | bool c=>
   cases e2
   exact m σ H _ ⟨U,A0,δ,_,R,e1,fun v H' s h=>by cases h; exact ⟨_,rfl,q H' s⟩⟩
 | _=>cases e2
theorem br {op:CmpOp} {f:D->D->Option D} (ho:iV X (compareOp op) r) (imp:jo X.K r f) (ha:PE X a (jl X.K O ga)) (hb:PE X b (jl X.K O gb)) (hm:behindInMarks op b=false):PT X (.Compare a [op] [b] pos) (tT X.K O (gB (g2 f ga gb))):=(Fn ho ha hb hm).mono fun _ _ _=>MT fun _ _ _=>zD imp
end
def dI (g:Int->Int->D):D->D->Option D
 | .int a,.int b=>some (g a b)
 | _,_=>none
open Classical in
def Ie (C:Int->Int->Prop) (g:Int->Int->D):D->D->Option D
 | .int a,.int b=>if C a b then some (g a b) else none
 | _,_=>none
open Classical in
theorem pN {C:Int->Int->Prop} {g:Int->Int->D} {a b:Int} (h:C a b):Ie C g (.int a) (.int b)=some (g a b):=by
 show (if C a b then some (g a b) else none)=_
 rw [if_pos h]
theorem vj {g:Int->Int->D} {a b:Int}:dI g (.int a) (.int b)=some (g a b):=rfl
theorem fH {K:PySem.W.Frag} {g:Int->Int->Int}:jo K (B5 fun i j=>.int (g i j)) (dI fun i j=>.int (g i j)):=by
 intro A H x y dx dy d Q al hx hy e q
 unfold dI at e
 split at e
 ·cases e
  exact ⟨_,_,hx.int,hy.int,q _ H (aH.refl H) (.int _)⟩
 ·cases e
theorem c9 {K:PySem.W.Frag} {g:Int->Int->Bool}:jo K (B5 fun i j=>.bl (g i j)) (dI fun i j=>.bool (g i j)):=by
 intro A H x y dx dy d Q al hx hy e q
 unfold dI at e
 split at e
 ·cases e
  exact ⟨_,_,hx.int,hy.int,q _ H (aH.refl H) (.bl _)⟩
 ·cases e
set_option tactic.hygienic true in
theorem az {K:PySem.W.Frag} {C:Int->Int->Prop} {g:Int->Int->Int}:jo K (rI C fun i j=>.int (g i j)) (Ie C fun i j=>.int (g i j)):=by
 intro A H x y dx dy d Q al hx hy e q
 unfold Ie at e
 split at e
 ·split at e
  ·rename_i c
   cases e
   exact ⟨_,_,hx.int,hy.int,c,q _ H (aH.refl H) (.int _)⟩
  ·cases e
 ·cases e
abbrev dB:D->D->Option D:=dI fun i j=>.int (i - j)
abbrev bC:D->D->Option D:=Ie IntMulOk fun i j=>.int (i * j)
abbrev g4:D->D->Option D:=Ie zx fun i j=>.int (i.fdiv j)
abbrev fb:D->D->Option D:=Ie (fun _ j=>j≠0) fun i j=>.int (i.fmod j)
abbrev vk:D->D->Option D:=Ie Jg fun i j=>.int (i ^ j.toNat)
abbrev zE:D->D->Option D:=dI fun i j=>.bool (decide (i < j))
abbrev MU:D->D->Option D:=dI fun i j=>.bool (decide (i<=j))
abbrev vn:D->D->Option D:=dI fun i j=>.bool (decide (j < i))
abbrev PD:D->D->Option D:=dI fun i j=>.bool (decide (j<=i))
def zF:D->D->Option D
 | .int a,.int b=>some (.bool (decide (a=b)))
 | a,b=>if (SeqAt.shaped a && SeqAt.shaped b)=true then some (.bool (PyData.eqv a b)) else none
def CD:D->D->Option D:=fun a b=>(zF a b).bind fun | .bool c=>some (.bool (!c)) | _=>none
set_option tactic.hygienic true in
theorem zG {a b d:D} (h:zF a b=some d):SeqAt.shaped a=true /\ SeqAt.shaped b=true /\ d=.bool (PyData.eqv a b):=by
 unfold zF at h
 split at h
 ·cases h
  refine ⟨by simp [SeqAt.shaped,PyData.canLay0,PyData.depth],by simp [SeqAt.shaped,PyData.canLay0,PyData.depth],?_⟩
  rw [PyData.eqv]; rfl
 ·split at h
  ·rename_i c
   rw [Bool.and_eq_true] at c
   cases h
   exact ⟨c.1,c.2,rfl⟩
  ·cases h
def FN (K:PySem.W.Frag) (neg:Bool):R2:=fun x y H Q=>∃ d e,HD K H x d /\ HD K H y e /\ SeqAt.shaped d=true /\ SeqAt.shaped e=true /\ Q (.bl (if neg=true then !PyData.eqv d e else PyData.eqv d e)) H
section
variable {X:Cx}
theorem sW {k:Nat} (hr:c8 k X.A):iV X (compareOp .Eq) (FN X.K false):=by
 intro pins s σ H x y v u Q I rx ry h
 obtain ⟨d,e,h1,h2,s1,s2,q⟩:=h
 obtain ⟨as,r1⟩:=h1.reads I rx (cT s1)
 obtain ⟨bs,r2⟩:=h2.reads I ry (cT s2)
 exact eq_dataH r1 r2 s1 s2 hr.units ⟨.bl _,H,I,rfl,q⟩
theorem nH {k:Nat} (hr:c8 k X.A):iV X (compareOp .NotEq) (FN X.K true):=by
 intro pins s σ H x y v u Q I rx ry h
 obtain ⟨d,e,h1,h2,s1,s2,q⟩:=h
 obtain ⟨as,r1⟩:=h1.reads I rx (cT s1)
 obtain ⟨bs,r2⟩:=h2.reads I ry (cT s2)
 exact ne_dataH r1 r2 s1 s2 hr.units ⟨.bl _,H,I,rfl,q⟩
end
theorem imp_eq {K:PySem.W.Frag}:jo K (FN K false) zF:=by
 intro A H x y dx dy d Q al hx hy e q
 obtain ⟨a,b,rfl⟩:=zG e
 exact ⟨dx,dy,hx.FL,hy.FL,a,b,q _ H (aH.refl H) (.bl _)⟩
theorem nI {K:PySem.W.Frag}:jo K (FN K true) CD:=by
 intro A H x y dx dy d Q al hx hy e q
 obtain ⟨c,e1,e2⟩:=bind1 e
 obtain ⟨a,b,rfl⟩:=zG e1
 cases e2
 exact ⟨dx,dy,hx.FL,hy.FL,a,b,q _ H (aH.refl H) (.bl _)⟩
def CF (K:PySem.W.Frag):R2:=fun x y H Q=>∃ l b xs zs,x=.ref l /\ y=.ref b /\ xk K H l xs /\ xk K H b zs /\ xs.length + zs.length<=sizeLine /\ ∀ p,H p=none->Q (.ref p) (upd H p (.lst (xs ++ zs)))
theorem mO {X:Cx}:iV X (binaryOp .Add) (CF X.K):=by
 intro pins s σ H x y v u Q I rx ry h
 obtain ⟨l,b,xs,zs,rfl,rfl,hH,hB,hz,q⟩:=h
 cases rx
 cases ry
 obtain ⟨z,its,n,r,e⟩:=I.WL hH
 obtain ⟨z2,qY,n2,r2,e2⟩:=I.WL hB
 have hl:=r.length
 have JB:=r2.length
 refine PySem.P.add_list e e2 ?_ (by rw [List.size_toArray,List.size_toArray]; omega)
 have ea:its.toArray ++ qY.toArray=(its ++ qY).toArray:=by simp
 rw [ea]
 exact ⟨.ref _,_,I.Pu (t':=s.toks) (r.append r2) (by rw [List.length_append]; omega),rfl,q _ I.fresh⟩
def sX:D->D->Option (List D)
 | .list a,.list b=>if a.length + b.length<=100000 then some (a ++ b) else none
 | _,_=>none
set_option tactic.hygienic true in
theorem mP {K:PySem.W.Frag}:CA K (CF K) sX:=by
 intro A H x y dx dy ds Q al hx hy e q
 unfold sX at e
 split at e
 ·split at e
  ·rename_i hz
   cases e
   obtain ⟨l,xs,rfl,h1,h2⟩:=hx.list
   obtain ⟨b,zs,rfl,h3,h4⟩:=hy.list
   have:=h2.len
   have:=h4.len
   exact ⟨l,b,xs,zs,rfl,rfl,h1,h3,small (by omega),fun p hp=>q p _ hp (h2.app h4)⟩
  ·cases e
 ·cases e
def CG:D->D->Option D
 | .int a,.int b=>some (.int (a + b))
 | .str a,.str b=>if a.length + b.length<=100000 then some (.str (a ++ b)) else none
 | .list a,.list b=>if a.length + b.length<=100000 then some (.list (a ++ b)) else none
 | .tuple a,.tuple b=>if a.length + b.length<=100000 /\ a≠[] then some (.tuple (a ++ b)) else none
 | _,_=>none
def zH (K:PySem.W.Frag):R2:=fun x y H Q=>B5 (fun i j=>.int (i + j)) x y H Q \/ (∃ i j,x=.str i /\ y=.str j /\ i.length + j.length<=sizeLine /\ Q (.str (i ++ j)) H) \/ CF K x y H Q \/ HR K x y H Q
theorem FO {X:Cx}:iV X (binaryOp .Add) (zH X.K):=Jh.or (xE.or (mO.or Fv))
theorem HD.PH {K:PySem.W.Frag} {A:List Addr} {H:Hp} {p:Addr} {ys:List V} {ds:List D} (al:Ls A H) (hp:H p=none) (h:cv K (wo H A) ys ds):HD K (wo (upd H p (.lst ys)) A) (.ref p) (.list ds):=by
 rw [Cy (al.free hp)]
 have hn:wo H A p=none:=by
  by_cases z:p∈A
  ·exact j7 z
  ·rw [cj z]; exact hp
 exact .lst (.of bR) (h.same (cD hn _))
theorem HD.sY {K:PySem.W.Frag} {A:List Addr} {H:Hp} {p:Addr} {ys:List V} {ds:List D} (al:Ls A H) (hp:H p=none) (h:cv K (wo H A) ys ds):HD K (wo (upd H p (.tup ys)) A) (.ref p) (.tuple ds):=by
 rw [Cy (al.free hp)]
 have hn:wo H A p=none:=by
  by_cases z:p∈A
  ·exact j7 z
  ·rw [cj z]; exact hp
 exact .tup (.inl bR) (h.same (cD hn _))
set_option tactic.hygienic true in
theorem FP {K:PySem.W.Frag}:jo K (zH K) CG:=by
 intro A H x y dx dy d Q al hx hy e q
 unfold CG at e
 split at e
 ·cases e
  exact .inl ⟨_,_,hx.int,hy.int,q _ H (aH.refl H) (.int _)⟩
 ·split at e
  ·cases e
   exact .inr (.inl ⟨_,_,hx.str,hy.str,small (by assumption),q _ H (aH.refl H) (.str _)⟩)
  ·cases e
 ·split at e
  ·rename_i hz
   cases e
   refine .inr (.inr (.inl (mP (K:=K) A H x y _ _ _ Q al hx hy (show (if _ then some _ else none)=some _ from if_pos hz) fun p ys hp h=>?_)))
   exact q _ _ (cD hp _) (HD.PH al hp h)
  ·cases e
 ·split at e
  ·rename_i hz
   cases e
   have Pa:=hx.fz
   obtain ⟨a,xs,rfl,h1,h2⟩:=hx.tuple
   obtain ⟨b,zs,rfl,h3,h4⟩:=hy.tuple
   have l2:=h2.len
   have l4:=h4.len
   refine .inr (.inr (.inr ⟨a,b,xs,zs,rfl,rfl,h1,h3,?_,small (by omega),fun z=>?_,fun z p hp=>?_⟩))
   ·intro z; subst z; cases h2; exact hz.2 rfl
   ·subst z; cases h4
    rw [List.append_nil] at q
    exact q _ H (aH.refl H) Pa
   ·exact q _ _ (cD hp _) (HD.sY al hp (h2.app h4))
  ·cases e
 ·cases e
def bu:D->D->Option D
 | .list ds,.int i=>qN ds i
 | .tuple ds,.int i=>qN ds i
 | .str z,.int i=>if z.length<=100000 then (qN z.cps.toList i).map fun c=>.str ⟨#[c]⟩ else none
 | _,_=>none
theorem cv.qN {K:PySem.W.Frag} {H:Hp} {xs:List V} {ds:List D} {i:Int} {d:D} (h:cv K H xs ds) (e:qN ds i=some d):∃ v,L2.qN xs i=some v /\ HD K H v d:=by
 unfold L2.qN at e ⊢
 obtain ⟨j,e1,e2⟩:=bind1 e
 rw [h.len,e1]
 obtain ⟨x,hx,q⟩:=h.get e2
 exact ⟨x,hx,q⟩
set_option tactic.hygienic true in
theorem JO {K:PySem.W.Frag}:jo K (WH K) bu:=by
 intro A H x y dx dy d Q al hx hy e q
 unfold bu at e
 split at e
 ·obtain ⟨l,xs,rfl,h1,h2⟩:=hx.list
  obtain ⟨v,e1,e2⟩:=h2.qN e
  exact .inl ⟨l,xs,_,v,rfl,hy.int,h1.sq,e1,q _ H (aH.refl H) e2⟩
 ·obtain ⟨l,xs,rfl,h1,h2⟩:=hx.tuple
  obtain ⟨v,e1,e2⟩:=h2.qN e
  exact .inr (.inl ⟨l,xs,_,v,rfl,hy.int,h1,e1,q _ H (aH.refl H) e2⟩)
 ·split at e
  ·rename_i z i hz
   cases ec:L2.qN z.cps.toList i with
   | none=>rw [ec] at e; cases e
   | some c=>
     rw [ec] at e; cases e
     exact .inr (.inr ⟨z,i,c,hx.str,hy.int,small hz,ec,q _ H (aH.refl H) (.str _)⟩)
  ·cases e
 ·cases e
section
variable {X:Cx} {O:List Nat} {a b:Expr} {ga gb:DS->Option D} {pos:Pos}
theorem ay (ha:PE X a (jl X.K O ga)) (hb:PE X b (jl X.K O gb)) (hs:zr b:=by exact fun _ _=>rfl):PE X (.Subscript a b pos) (tE X.K O (g2 bu ga gb)):=(My Jv ha hb hs).mono fun _ _ _=>zD JO
end
def g1 (f:D->Option D) (a:DS->Option D):DS->Option D:=fun δ=>(a δ).bind f
def xK:D->Option D
 | .int a=>some (.int (-a))
 | _=>none
def FQ:D->Option D
 | .bool a=>some (.bool (!a))
 | _=>none
section
variable {X:Cx} {O:List Nat} {a b c:Expr} {ga gb:DS->Option D} {pos:Pos}
theorem xM (ha:PE X a (jl X.K O ga)):PE X (.UnaryOp .USub a pos) (tE X.K O (g1 xK ga)):=(Mq Ji ha).mono fun σ H Q hh=>hh.e fun U A0 δ d R ed q=>by
 obtain ⟨x,e1,e2⟩:=bind1 ed
 cases x with
 | int i=>cases e2; exact ⟨U,A0,δ,_,R,e1,fun v H' s h=>⟨i,h.int,q _ H' s (.int _)⟩⟩
 | _=>cases e2
theorem JP (ha:PE X a (jl X.K O ga)):PE X (.UnaryOp .Not a pos) (tE X.K O (g1 FQ ga)):=(IY ha).mono fun σ H Q hh=>hh.e fun U A0 δ d R ed q=>by
 obtain ⟨x,e1,e2⟩:=bind1 ed
 cases x with
 | bool i=>cases e2; exact ⟨U,A0,δ,_,R,e1,fun v H' s h=>⟨i,h.bool,q _ H' s (.bl _)⟩⟩
 | _=>cases e2
def oy (a b:DS->Option D):DS->Option D:=fun δ=>(gB a δ).bind fun x=>if x=true then b δ else some (.bool false)
def PJ (a b:DS->Option D):DS->Option D:=fun δ=>(gB a δ).bind fun x=>if x=true then some (.bool true) else b δ
theorem FR {g:DS->Option D} {δ:DS} {b:Bool} (h:gB g δ=some b):g δ=some (.bool b):=by
 obtain ⟨d,e1,e2⟩:=bind1 h
 cases d with
 | bool c=>cases e2; exact e1
 | _=>cases e2
theorem xN {rest:List Expr} (ha:PE X a (tE X.K O ga)) (hb:PE X (.BoolOp .And (b :: rest) pos) (tE X.K O gb)):PE X (.BoolOp .And (a :: b :: rest) pos) (tE X.K O (oy ga gb)):=(IX ha hb).mono fun σ H Q hh=>hh.e fun U A0 δ d R ed q=>by
 obtain ⟨x,e1,e2⟩:=bind1 ed
 refine ⟨U,A0,δ,_,R,FR e1,fun v H' s h=>?_⟩
 cases h
 refine ⟨x,rfl,?_⟩
 cases x with
 | true=>rw [if_pos rfl] at e2 ⊢; exact ⟨U,A0,δ,d,R.same s,e2,fun v H2 s2 h2=>q v H2 (s.trans s2) h2⟩
 | false=>rw [if_neg Bool.false_ne_true] at e2 ⊢; cases e2; exact q _ H' s (.bl _)
def mQ (a b:DS->Option Bool):DS->Option Bool:=fun δ=>(a δ).bind fun x=>if x=true then b δ else some false
def zI (a b:DS->Option Bool):DS->Option Bool:=fun δ=>(a δ).bind fun x=>if x=true then some true else b δ
def k8 (a:DS->Option Bool):DS->Option Bool:=fun δ=>(a δ).map fun x=> !x
variable {ta tb:DS->Option Bool} {rest:List Expr}
theorem kC (ha:PT X a (tT X.K O ta)) (hb:PW X (.BoolOp .And (b :: rest) pos) (tT X.K O tb)):PW X (.BoolOp .And (a :: b :: rest) pos) (tT X.K O (mQ ta tb)):=(pw_and ha hb).mono fun σ H Q hh=>hh.e fun U A0 δ d R ed q=>by
 obtain ⟨x,e1,e2⟩:=bind1 ed
 refine ⟨U,A0,δ,_,R,e1,fun H' s=>?_⟩
 cases x with
 | true=>rw [if_pos rfl] at e2 ⊢; exact ⟨U,A0,δ,d,R.same s,e2,fun H2 s2=>q H2 (s.trans s2)⟩
 | false=>rw [if_neg Bool.false_ne_true] at e2 ⊢; cases e2; exact q H' s
theorem j8 (ha:PT X a (tT X.K O ta)) (hb:PW X (.BoolOp .Or (b :: rest) pos) (tT X.K O tb)):PW X (.BoolOp .Or (a :: b :: rest) pos) (tT X.K O (zI ta tb)):=(pw_or ha hb).mono fun σ H Q hh=>hh.e fun U A0 δ d R ed q=>by
 obtain ⟨x,e1,e2⟩:=bind1 ed
 refine ⟨U,A0,δ,_,R,e1,fun H' s=>?_⟩
 cases x with
 | true=>rw [if_pos rfl] at e2 ⊢; cases e2; exact q H' s
 | false=>rw [if_neg Bool.false_ne_true] at e2 ⊢; exact ⟨U,A0,δ,d,R.same s,e2,fun H2 s2=>q H2 (s.trans s2)⟩
theorem ib (ha:PT X a (tT X.K O ta)):PT X (.UnaryOp .Not a pos) (tT X.K O (k8 ta)):=(IW ha).mono fun σ H Q hh=>hh.e fun U A0 δ d R ed q=>by
 unfold k8 at ed
 cases e:ta δ with
 | none=>rw [e] at ed; cases ed
 | some x=>rw [e] at ed; cases ed; exact ⟨U,A0,δ,x,R,e,fun H' s=>q H' s⟩
def FT:D->Option Bool
 | .none=>some false
 | .bool b=>some b
 | .int i=>some (i != 0)
 | .str x=>if x.length<=100000 then some ((x.length:Int) != 0) else none
 | .list l=>some (!l.isEmpty)
 | .tuple l=>some (!l.isEmpty)
 | _=>none
def ja (g:DS->Option D):DS->Option Bool:=fun δ=>(g δ).bind FT
theorem pO {K:PySem.W.Frag} {H:Hp} {xs:List V} {ds:List D} (h:cv K H xs ds):xs.isEmpty=ds.isEmpty:=by cases h <;> rfl
theorem cN (ha:PE X a (jl X.K O ga)) (he:∀ whole,isTrue a X.env whole=(do let v <- whole; standAt a.pos; holding [v] (truthy v)):=by exact fun _=>rfl):PT X a (tT X.K O (ja ga)):=(B9 ha he).mono fun σ H Q hh=>hh.e fun U A0 δ k R ed q=>by
 obtain ⟨d,e1,e2⟩:=bind1 ed
 refine ⟨U,A0,δ,d,R,e1,fun v H' s h=>⟨k,?_,q H' s⟩⟩
 cases d with
 | none=>cases e2; rw [h.h8]; exact rfl
 | bool b=>cases e2; rw [h.bool]; exact rfl
 | int i=>cases e2; rw [h.int]; exact rfl
 | str x=>
   rw [h.str]
   have e3:(if x.length<=100000 then some ((x.length:Int) != 0) else none)=some k:=e2
   split at e3
   ·cases e3; exact ⟨small (by assumption),rfl⟩
   ·cases e3
 | list l=>
   cases e2
   obtain ⟨p,xs,rfl,h1,h2⟩:=h.list
   exact .inl ⟨xs,h1.sq,by rw [pO h2]⟩
 | tuple l=>
   cases e2
   obtain ⟨p,xs,rfl,h1,h2⟩:=h.tuple
   exact .inr (.inl ⟨xs,h1,by rw [pO h2]⟩)
 | dict _=>cases e2
def PK (c:DS->Option Bool) (a b:DS->Option D):DS->Option D:=fun δ=>(c δ).bind fun x=>if x=true then a δ else b δ
end
def ai:DS->Option (List D):=fun _=>some []
def aa (a:DS->Option D) (r:DS->Option (List D)):DS->Option (List D):=fun δ=>(a δ).bind fun x=>(r δ).bind fun xs=>some (x :: xs)
def aW (r:DS->Option (List D)):DS->Option D:=fun δ=>(r δ).bind fun xs=>if xs.length<=100000 then some (.tuple xs) else none
def iK (r:DS->Option (List D)):DS->Option (List D):=fun δ=>(r δ).bind fun xs=>if xs.length<=100000 then some xs else none
section
variable {X:Cx} {O:List Nat} {e:Expr} {es:List Expr} {ga:DS->Option D} {gr:DS->Option (List D)} {pos:Pos}
theorem aj:PA X [] (AW X.K O ai):=dz.mono fun σ H Q hh=>hh.e fun U A0 δ d R ed q=>by cases ed; exact q [] H (aH.refl H) .nil
theorem ab (ha:PE X e (tE X.K O ga)) (hr:PA X es (AW X.K O gr)) (hs:starEach (e :: es) X.env=(false,eval e X.env) :: starEach es X.env:=by rfl):PA X (e :: es) (AW X.K O (aa ga gr)):=(cn ha hr hs).mono fun σ H Q hh=>hh.e fun U A0 δ ds R ed q=>by
 obtain ⟨x,xs,e1,e2,e3⟩:=zC ed
 cases e3
 exact ⟨U,A0,δ,x,R,e1,fun v H1 s1 h1=>⟨U,A0,δ,xs,R.same s1,e2,fun vs H2 s2 h2=>q _ H2 (s1.trans s2) (.cons (h1.same (cq s2)) h2)⟩⟩
theorem aO:PA X [] (oM X.K O ai):=dz.mono fun σ H Q hh=>hh.e fun U A0 δ d R ed q=>by cases ed; exact q [] H (aH.refl H) .nil
theorem aE (ha:PE X e (jl X.K O ga)) (hr:PA X es (oM X.K O gr)) (hs:starEach (e :: es) X.env=(false,eval e X.env) :: starEach es X.env:=by rfl):PA X (e :: es) (oM X.K O (aa ga gr)):=(cn ha hr hs).mono fun σ H Q hh=>hh.e fun U A0 δ ds R ed q=>by
 obtain ⟨x,xs,e1,e2,e3⟩:=zC ed
 cases e3
 exact ⟨U,A0,δ,x,R,e1,fun v H1 s1 h1=>⟨U,A0,δ,xs,R.same s1,e2,fun vs H2 s2 h2=>q _ H2 (s1.trans s2) (.cons (h1.same s2) h2)⟩⟩
set_option tactic.hygienic true in
theorem bz {x1} (h:PA X es (AW X.K O gr)):PE X (.Tuple es x1 pos) (tE X.K O (aW gr)):=(Jn h).mono fun σ H Q hh=>hh.e fun U A0 δ d R ed q=>by
 obtain ⟨xs,e1,e2⟩:=bind1 ed
 split at e2
 ·rename_i hz
  cases e2
  refine ⟨U,A0,δ,xs,R,e1,fun vs H' s h=>⟨by have:=h.len; exact small (by omega),fun p hp=>q _ _ (s.trans (cD hp _)) (HD.sY (R.same s).al hp h)⟩⟩
 ·cases e2
set_option tactic.hygienic true in
theorem g5 (h:PA X es (AW X.K O gr)):PE X (.List es pos) (tN X.K O (iK gr)):=(Jo h).mono fun σ H Q hh=>hh.e fun U A0 δ d R ed q=>by
 obtain ⟨xs,e1,e2⟩:=bind1 ed
 split at e2
 ·rename_i hz
  cases e2
  refine ⟨U,A0,δ,d,R,e1,fun vs H' s h=>⟨by have:=h.len; exact small (by omega),fun p hp=>pL s q p vs hp h⟩⟩
 ·cases e2
end
def cS (K:PySem.W.Frag) (n:Nat) (G:List D->Option D):Sp:=fun vs H Q _=>vs.length=n /\ ∃ A ds d,Ls A H /\ cv K (wo H A) vs ds /\ G ds=some d /\ ∀ v H',aH H H'->HD K (wo H' A) v d->Q v H'
def oz (K:PySem.W.Frag) (n:Nat) (G:List D->Option (List D)):Sp:=fun vs H Q _=>vs.length=n /\ ∃ A ds d,Ls A H /\ cv K (wo H A) vs ds /\ G ds=some d /\
 ∀ r ys H',aH H H'->H r=none->H' r=some (.lst ys)->cv K (wo H' (r :: A)) ys d->Q (.ref r) H'
def aK (G:List D->Option D) (n:Nat) (g:DS->Option (List D)):DS->Option D:=fun δ=>(g δ).bind fun ds=>if ds.length=n then G ds else none
def dU (G:List D->Option (List D)) (n:Nat) (g:DS->Option (List D)):DS->Option (List D):=fun δ=>(g δ).bind fun ds=>if ds.length=n then G ds else none
def mR (G:List D->Option D) (n:Nat) (g:DS->Option (List D)):DS->Option D:=fun δ=>(g δ).bind fun ds=>if ds.length=n then (G ds).bind fun d=>if xl d=true then some d else none else none
section
variable {X:Cx} {O:List Nat} {e:Expr} {es:List Expr} {gr:DS->Option (List D)} {pos p:Pos} {n k kk:Nat} {x:Str} {ps:List Str}
theorem pK.JQ {K:PySem.W.Frag} {A:List Addr} {H:Hp}:∀ {vs:List V} {ds:List D},pK K A H vs ds->cv K H vs ds
 | _,_,.nil=>.nil
 | _,_,.cons h t=>.cons h.FL (pK.JQ t)
set_option tactic.hygienic true in
theorem aB {G:List D->Option D} (F:Dn X.prog X.w X.K X.mg X.base k x ps (cS X.K n G)) (hr:c8 kk X.A) (hk:k<=kk) (ha:PA X (e :: es) (AW X.K O gr)) (hg:Gl X x:=by rfl)
  (qW:(x == ("__debug__":Str))=false:=by decide) (he:starEach (e :: es) X.env=(false,eval e X.env) :: starEach es X.env:=by rfl) (lp:(backTo pos (starEach es X.env)).any (·.1)=false:=by rfl):
  PE X (.Call (.Name x p) (e :: es) [] pos) (tE X.K O (aK G n gr)):=(zy F hr hk ha hg qW he lp).mono fun σ H Q hh=>hh.e fun U A0 δ d R ed q=>by
 obtain ⟨ds,e1,e2⟩:=bind1 ed
 split at e2
 ·rename_i hn
  refine ⟨U,A0,δ,ds,R,e1,fun vs H' s h=>?_⟩
  show cS X.K n G (vs ++ []) H' Q E0
  rw [List.append_nil]
  exact ⟨by rw [h.len]; exact hn,U ++ A0,ds,d,(R.same s).al,h,e2,fun v H2 s2 h2=>q v H2 (s.trans s2) h2⟩
 ·cases e2
set_option tactic.hygienic true in
theorem gS {G:List D->Option (List D)} (F:Dn X.prog X.w X.K X.mg X.base k x ps (oz X.K n G)) (hr:c8 kk X.A) (hk:k<=kk) (ha:PA X (e :: es) (AW X.K O gr)) (hg:Gl X x:=by rfl)
  (qW:(x == ("__debug__":Str))=false:=by decide) (he:starEach (e :: es) X.env=(false,eval e X.env) :: starEach es X.env:=by rfl) (lp:(backTo pos (starEach es X.env)).any (·.1)=false:=by rfl):
  PE X (.Call (.Name x p) (e :: es) [] pos) (tN X.K O (dU G n gr)):=(zy F hr hk ha hg qW he lp).mono fun σ H Q hh=>hh.e fun U A0 δ d R ed q=>by
 obtain ⟨ds,e1,e2⟩:=bind1 ed
 split at e2
 ·rename_i hn
  refine ⟨U,A0,δ,ds,R,e1,fun vs H' s h=>?_⟩
  show oz X.K n G (vs ++ []) H' Q E0
  rw [List.append_nil]
  exact ⟨by rw [h.len]; exact hn,U ++ A0,ds,d,(R.same s).al,h,e2,fun r ys H2 s2 h0 h1 h2=>q r ys H2 (s.trans s2) (s.free h0) h1 h2⟩
 ·cases e2
set_option tactic.hygienic true in
theorem AX {G:List D->Option D} (F:Dn X.prog X.w X.K X.mg X.base k x ps (cS X.K n G)) (hr:c8 kk X.A) (hk:k<=kk) (ha:PA X (e :: es) (oM X.K O gr)) (hg:Gl X x:=by rfl)
  (qW:(x == ("__debug__":Str))=false:=by decide) (he:starEach (e :: es) X.env=(false,eval e X.env) :: starEach es X.env:=by rfl) (lp:(backTo pos (starEach es X.env)).any (·.1)=false:=by rfl):
  PE X (.Call (.Name x p) (e :: es) [] pos) (tE X.K O (mR G n gr)):=(zy F hr hk ha hg qW he lp).mono fun σ H Q hh=>hh.e fun U A0 δ d R ed q=>by
 obtain ⟨ds,e1,e2⟩:=bind1 ed
 split at e2
 ·rename_i hn
  obtain ⟨d',e3,e4⟩:=bind1 e2
  split at e4
  ·rename_i hL
   cases e4
   refine ⟨U,A0,δ,ds,R,e1,fun vs H' s h=>?_⟩
   show cS X.K n G (vs ++ []) H' Q E0
   rw [List.append_nil]
   have h':=h.JQ
   refine ⟨by rw [h'.len]; exact hn,[],ds,d,⟨fun _ z=>by simp at z,(R.same s).al.2⟩,by rw [pJ]; exact h',e3,fun v H2 s2 h2=>q v H2 (s.trans s2) ?_⟩
   rw [pJ] at h2
   exact h2.off (R.same (s.trans s2)).al hL
  ·cases e4
 ·cases e2
end
def rb (K:PySem.W.Frag) (r:List V->Hp->VK->Prop) (f:List D->Option D):Prop:=∀ (A:List Addr) (H:Hp) (vs:List V) (ds:List D) (d:D) (Q:VK),Ls A H->pK K A H vs ds->f ds=some d->(∀ v H',aH H H'->HD K (wo H' A) v d->Q v H')->r vs H Q
def CH (K:PySem.W.Frag) (r:List V->Hp->VK->Prop) (f:List D->Option (List D)):Prop:=∀ (A:List Addr) (H:Hp) (vs:List V) (ds:List D) (d:List D) (Q:VK),Ls A H->pK K A H vs ds->f ds=some d->
 (∀ p ys,H p=none->cv K (wo H A) ys d->Q (.ref p) (upd H p (.lst ys)))->r vs H Q
def fI (f:List D->Option D) (g:DS->Option (List D)):DS->Option D:=fun δ=>(g δ).bind f
def vv (f:List D->Option (List D)) (g:DS->Option (List D)):DS->Option (List D):=fun δ=>(g δ).bind f
section
variable {X:Cx} {O:List Nat} {e:Expr} {es:List Expr} {gr:DS->Option (List D)} {pos p:Pos} {x:Str} {r:List V->Hp->VK->Prop} {id T:String}
theorem Ig {K:PySem.W.Frag} {f:List D->Option D} (imp:rb K r f) {σ:St} {H:Hp} {Q:VK}:tE K O (fI f gr) σ H Q->Ou r (oM K O gr) σ H Q:=fun ⟨U,A0,δ,d,R,ed,q⟩=>by
 obtain ⟨ds,e1,e2⟩:=bind1 ed
 exact ⟨U,A0,δ,ds,R,e1,fun vs H' s h=>imp _ H' vs ds d Q (R.same s).al h e2 fun v H2 s2 h2=>q v H2 (s.trans s2) h2⟩
theorem MV {K:PySem.W.Frag} {f:List D->Option (List D)} (imp:CH K r f) {σ:St} {H:Hp} {Q:VK}:tN K O (vv f gr) σ H Q->Ou r (oM K O gr) σ H Q:=fun ⟨U,A0,δ,d,R,ed,q⟩=>by
 obtain ⟨ds,e1,e2⟩:=bind1 ed
 exact ⟨U,A0,δ,ds,R,e1,fun vs H' s h=>imp _ H' vs ds d Q (R.same s).al h e2 (pL s q)⟩
theorem aZ {f:List D->Option D} (hc:eX X (.builtin id) r) (imp:rb X.K r f) (hg:Gl X x) (hm:X.mg x=none) (hv:bootBuiltins x=some (.builtin id)) (ha:PA X (e :: es) (oM X.K O gr)) (hn:x≠"__name__":=by decide) (qW:(x == ("__debug__":Str))=false:=by decide)
  (he:starEach (e :: es) X.env=(false,eval e X.env) :: starEach es X.env:=by rfl) (lp:(backTo pos (starEach es X.env)).any (·.1)=false:=by rfl):PE X (.Call (.Name x p) (e :: es) [] pos) (tE X.K O (fI f gr)):=
 (pC hc hg hm hv ha hn qW he lp).mono fun _ _ _=>Ig imp
theorem nJ {f:List D->Option D} (hc:eX X (.type T) r) (imp:rb X.K r f) (hg:Gl X x) (hm:X.mg x=none) (hv:bootBuiltins x=some (.type T)) (ha:PA X (e :: es) (oM X.K O gr)) (hn:x≠"__name__":=by decide) (qW:(x == ("__debug__":Str))=false:=by decide)
  (he:starEach (e :: es) X.env=(false,eval e X.env) :: starEach es X.env:=by rfl) (lp:(backTo pos (starEach es X.env)).any (·.1)=false:=by rfl):PE X (.Call (.Name x p) (e :: es) [] pos) (tE X.K O (fI f gr)):=
 (nz hc hg hm hv ha hn qW he lp).mono fun _ _ _=>Ig imp
theorem pP {f:List D->Option (List D)} (hc:eX X (.type T) r) (imp:CH X.K r f) (hg:Gl X x) (hm:X.mg x=none) (hv:bootBuiltins x=some (.type T)) (ha:PA X (e :: es) (oM X.K O gr)) (hn:x≠"__name__":=by decide) (qW:(x == ("__debug__":Str))=false:=by decide)
  (he:starEach (e :: es) X.env=(false,eval e X.env) :: starEach es X.env:=by rfl) (lp:(backTo pos (starEach es X.env)).any (·.1)=false:=by rfl):PE X (.Call (.Name x p) (e :: es) [] pos) (tN X.K O (vv f gr)):=
 (nz hc hg hm hv ha hn qW he lp).mono fun _ _ _=>MV imp
end
theorem EZ {K:PySem.W.Frag} {A:List Addr} {H:Hp} {vs:List V} {d:D} (h:pK K A H vs [d]):∃ v,vs=[v] /\ ia K A H v d:=by
 unfold pK at h
 cases h with
 | cons a t=>cases t; exact ⟨_,rfl,a⟩
theorem WQ {K:PySem.W.Frag} {A:List Addr} {H:Hp} {vs:List V} {d e:D} (h:pK K A H vs [d,e]):∃ v u,vs=[v,u] /\ ia K A H v d /\ ia K A H u e:=by
 unfold pK at h
 cases h with
 | cons a t=>cases t with
   | cons b t=>cases t; exact ⟨_,_,rfl,a,b⟩
def e9:List D->Option D
 | [.list l]=>some (.int l.length)
 | [.tuple l]=>some (.int l.length)
 | [.str z]=>if z.length<=100000 then some (.int z.length) else none
 | _=>none
theorem bY {X:Cx}:eX X (.builtin "len") (fun xs H Q=>(∃ p ys,xs=[.ref p] /\ (iC X.K H p ys \/ jn X.K H p ys) /\ Q (.int ys.length) H) \/ ∃ z,xs=[.str z] /\ z.length<=sizeLine /\ Q (.int z.length) H):=sP.or sQ
theorem c5 {K:PySem.W.Frag}:rb K (fun xs H Q=>(∃ p ys,xs=[.ref p] /\ (iC K H p ys \/ jn K H p ys) /\ Q (.int ys.length) H) \/ ∃ z,xs=[.str z] /\ z.length<=sizeLine /\ Q (.int z.length) H) e9:=by
 intro A H vs ds d Q al h e q
 unfold e9 at e
 split at e
 ·cases e
  obtain ⟨v,rfl,h1⟩:=EZ h
  clear h
  have h:=h1
  obtain ⟨p,xs,rfl,h1,h2⟩:=h.list
  refine .inl ⟨p,xs,rfl,.inl h1.sq,?_⟩
  rw [h2.len]
  exact q _ H (aH.refl H) (.int _)
 ·cases e
  obtain ⟨v,rfl,h1⟩:=EZ h
  clear h
  have h:=h1
  obtain ⟨p,xs,rfl,h1,h2⟩:=h.tuple
  refine .inl ⟨p,xs,rfl,.inr h1,?_⟩
  rw [h2.len]
  exact q _ H (aH.refl H) (.int _)
 ·split at e
  ·cases e
   obtain ⟨v,rfl,h1⟩:=EZ h
   exact .inr ⟨_,by rw [h1.str],small (by assumption),q _ H (aH.refl H) (.int _)⟩
  ·cases e
 ·cases e
def mS:List D->Option D
 | [.int i]=>some (.int (if i < 0 then -i else i))
 | _=>none
theorem kD {K:PySem.W.Frag}:rb K (fun xs H Q=>∃ i,xs=[.int i] /\ Q (.int (if i < 0 then -i else i)) H) mS:=by
 intro A H vs ds d Q al h e q
 unfold mS at e
 split at e
 ·cases e
  obtain ⟨v,rfl,h1⟩:=EZ h
  clear h
  have h:=h1
  exact ⟨_,by rw [h.int],q _ H (aH.refl H) (.int _)⟩
 ·cases e
def oA:List D->Option D
 | [.int i,.int j]=>some (.int (if j > i then j else i))
 | _=>none
def vw:List D->Option D
 | [.int i,.int j]=>some (.int (if j < i then j else i))
 | _=>none
theorem zJ {K:PySem.W.Frag}:rb K (fun xs H Q=>∃ i j,xs=[.int i,.int j] /\ Q (.int (if j > i then j else i)) H) oA:=by
 intro A H vs ds d Q al h e q
 unfold oA at e
 split at e
 ·cases e
  obtain ⟨v,u,rfl,h1,h'⟩:=WQ h
  clear h
  have h:=h1
  exact ⟨_,_,by rw [h.int,h'.int],q _ H (aH.refl H) (.int _)⟩
 ·cases e
theorem FU {K:PySem.W.Frag}:rb K (fun xs H Q=>∃ i j,xs=[.int i,.int j] /\ Q (.int (if j < i then j else i)) H) vw:=by
 intro A H vs ds d Q al h e q
 unfold vw at e
 split at e
 ·cases e
  obtain ⟨v,u,rfl,h1,h'⟩:=WQ h
  clear h
  have h:=h1
  exact ⟨_,_,by rw [h.int,h'.int],q _ H (aH.refl H) (.int _)⟩
 ·cases e
def CI:List D->Option D
 | [.int i]=>some (.int i)
 | [.bool k]=>some (.int (if k then 1 else 0))
 | _=>none
theorem FV {K:PySem.W.Frag}:rb K (fun xs H Q=>(∃ i,xs=[.int i] /\ Q (.int i) H) \/ ∃ k,xs=[.bl k] /\ Q (.int (if k then 1 else 0)) H) CI:=by
 intro A H vs ds d Q al h e q
 unfold CI at e
 split at e
 ·cases e
  obtain ⟨v,rfl,h1⟩:=EZ h
  clear h
  have h:=h1
  exact .inl ⟨_,by rw [h.int],q _ H (aH.refl H) (.int _)⟩
 ·cases e
  obtain ⟨v,rfl,h1⟩:=EZ h
  clear h
  have h:=h1
  exact .inr ⟨_,by rw [h.bool],q _ H (aH.refl H) (.int _)⟩
 ·cases e
def lJ:List D->Option (List D)
 | [.list l]=>some l
 | [.tuple l]=>some l
 | _=>none
theorem vz {K:PySem.W.Frag}:CH K (fun xs H Q=>∃ p ys,xs=[.ref p] /\ (iC K H p ys \/ jn K H p ys) /\ ∀ l,H l=none->Q (.ref l) (upd H l (.lst ys))) lJ:=by
 intro A H vs ds d Q al h e q
 unfold lJ at e
 split at e
 ·cases e
  obtain ⟨v,rfl,h1⟩:=EZ h
  clear h
  have h:=h1
  obtain ⟨p,xs,rfl,h1,h2⟩:=h.list
  exact ⟨p,xs,rfl,.inl h1.sq,fun l hl=>q l xs hl h2⟩
 ·cases e
  obtain ⟨v,rfl,h1⟩:=EZ h
  clear h
  have h:=h1
  obtain ⟨p,xs,rfl,h1,h2⟩:=h.tuple
  exact ⟨p,xs,rfl,.inr h1,fun l hl=>q l xs hl h2⟩
 ·cases e
def j9:List D->Option D
 | [.list l]=>some (.tuple l)
 | [.tuple l]=>some (.tuple l)
 | _=>none
theorem r6 {K:PySem.W.Frag}:rb K (fun xs H Q=>∃ p ys,xs=[.ref p] /\ ((iC K H p ys /\ ∀ l,H l=none->Q (.ref l) (upd H l (.tup ys))) \/ (jn K H p ys /\ Q (.ref p) H))) j9:=by
 intro A H vs ds d Q al h e q
 unfold j9 at e
 split at e
 ·cases e
  obtain ⟨v,rfl,h1⟩:=EZ h
  clear h
  have h:=h1
  obtain ⟨p,xs,rfl,h1,h2⟩:=h.list
  exact ⟨p,xs,rfl,.inl ⟨h1.sq,fun l hl=>q _ _ (cD hl _) (HD.sY al hl h2)⟩⟩
 ·cases e
  obtain ⟨v,rfl,h1⟩:=EZ h
  clear h
  have h:=h1
  have h':=h.fz
  obtain ⟨p,xs,rfl,h1,h2⟩:=h.tuple
  exact ⟨p,xs,rfl,.inr ⟨h1,q _ H (aH.refl H) h'⟩⟩
 ·cases e
def tyName:D->String
 | .none=>"NoneType"
 | .bool _=>"bool"
 | .int _=>"int"
 | .str _=>"str"
 | .list _=>"list"
 | .tuple _=>"tuple"
 | .dict _=>"dict"
theorem JR {K:PySem.W.Frag} {t n:String} {b:Bool} (h:(Value.type t == Value.type n)=false) (h2:PySem.W.kitMeta n=true) (h3:(fastBuiltinMro t).map (·.contains (Value.type n))=some b):PySem.W.kitOne K (.type t) (.type n)=some b:=by
 unfold PySem.W.kitOne PySem.W.kitCls
 rw [h,if_neg (by decide)]
 show (if PySem.W.kitMeta n=true then PySem.W.subIn K (.type t) (.type n) else none)=some b
 rw [if_pos h2]
 exact h3
def fc:List String:=["int","bool","str","list","tuple","NoneType"]
def xO (n:String):List D->Option D
 | [d]=>if tyName d∈fc /\ n∈fc then some (.bool (decide (tyName d=n) || (decide (tyName d="bool") && decide (n="int")))) else none
 | _=>none
theorem FW {K:PySem.W.Frag} {t n:String} (ht:t∈fc) (hn:n∈fc):PySem.W.kitOne K (.type t) (.type n)=some (decide (t=n) || (decide (t="bool") && decide (n="int"))):=by
 by_cases h:t=n
 ·subst h
  rw [Cs]; simp
 ·have all:∀ t∈fc,∀ n∈fc,t≠n->(Value.type t == Value.type n)=false /\ PySem.W.kitMeta n=true /\ (fastBuiltinMro t).map (·.contains (Value.type n))=some (decide (t=n) || (decide (t="bool") && decide (n="int"))):=by decide +kernel
  obtain ⟨h1,h2,h3⟩:=all t ht n hn h
  exact JR h1 h2 h3
theorem ia.ty {K:PySem.W.Frag} {A:List Addr} {H:Hp} {v:V} {d:D} (h:ia K A H v d) (hn:tyName d∈fc):WK K H v (tyName d):=by
 cases d with
 | none=>rw [h.h8]; exact .inl .h8
 | bool b=>rw [h.bool]; exact .inl (.bl b)
 | int i=>rw [h.int]; exact .inl (.int i)
 | str x=>rw [h.str]; exact .inl (.str x)
 | list l=>obtain ⟨p,xs,rfl,h1,_⟩:=h.list; exact .inr (.inr ⟨p,xs,rfl,h1.sq,rfl⟩)
 | tuple l=>obtain ⟨p,xs,rfl,h1,_⟩:=h.tuple; exact .inr (.inl ⟨p,xs,rfl,h1,rfl⟩)
 | dict l=>simp [tyName,fc] at hn
section
variable {X:Cx} {O:List Nat} {e:Expr} {ga:DS->Option D} {pos p p2:Pos}
def xP (n:String) (g:DS->Option D):DS->Option D:=fun δ=>(g δ).bind fun d=>xO n [d]
set_option tactic.hygienic true in
theorem xQ {n:Str} (T:String) (hB:X.mg "isinstance"=none) (ha:PE X e (jl X.K O ga)) (ht:PE X (.Name n p2) (tC (.ty T))) (hg:Gl X "isinstance":=by rfl)
  (he:starEach [e,.Name n p2] X.env=(false,eval e X.env) :: starEach [.Name n p2] X.env:=by rfl) (JS:starEach [.Name n p2] X.env=(false,eval (.Name n p2) X.env) :: starEach [] X.env:=by rfl) (lp:(backTo pos (starEach [.Name n p2] X.env)).any (·.1)=false:=by rfl):
  PE X (.Call (.Name "isinstance" p) [e,.Name n p2] [] pos) (tE X.K O (xP T ga)):=
 (pC Cr hg hB ra (cn ha (cn ht dz JS) he) (by decide) (by decide) he lp).mono fun σ H Q hh=>hh.e fun U A0 δ d R ed q=>by
  obtain ⟨x,e1,e2⟩:=bind1 ed
  have e3:(if tyName x∈fc /\ T∈fc then some (PyData.bool (decide (tyName x=T) || (decide (tyName x="bool") && decide (T="int")))) else none)=some d:=e2
  split at e3
  ·rename_i hz
   cases e3
   refine ⟨U,A0,δ,x,R,e1,fun v H' s h=>?_⟩
   exact ⟨v,T,tyName x,_,rfl,h.ty hz.1,FW hz.1 hz.2,q _ H' s (.bl _)⟩
  ·cases e3
end
def lu (g:DS->Option D):DS->Option (Option Int):=fun δ=>(g δ).bind fun | .int i=>some (some i) | _=>none
def FX:DS->Option (Option Int):=fun _=>some none
def MW (K:PySem.W.Frag) (O:List Nat) (g:DS->Option (Option Int)):TO:=fun σ H Q=>∃ U A0 δ d,Rel K O U A0 σ δ H /\ g δ=some d /\ ∀ H',aH H H'->Q d H'
theorem MW.e {K:PySem.W.Frag} {O:List Nat} {g:DS->Option (Option Int)}  {σ:_} {H:_} {Q:_} {GG:Prop} (hh:MW K O g σ H Q) (kk:∀ U A0 δ d,(Rel K O U A0 σ δ H)->(g δ=some d)->(∀ H',aH H H'->Q d H')->GG):GG:=by obtain ⟨U,A0,δ,d,x0,x1,x2⟩:=hh; exact kk U A0 δ d x0 x1 x2
def cutD (xs:List D) (lo hi:Option Int):List D:=(xs.drop (HT.qX xs.length 0 lo)).take (HT.qX xs.length xs.length hi - HT.qX xs.length 0 lo)
def CJ (a:DS->Option D) (lo hi:DS->Option (Option Int)):DS->Option (List D):=fun δ=>(a δ).bind fun x=>(lo δ).bind fun l=>(hi δ).bind fun h=>match x with
 | .list ds=>some (cutD ds l h)
 | _=>none
section
variable {X:Cx} {O:List Nat} {e:Expr} {lo hi:Option Expr} {ga:DS->Option D} {gl gh:DS->Option (Option Int)} {pos p2:Pos}
theorem vA (h:PE X e (jl X.K O ga)):PO X (some e) (MW X.K O (lu ga)):=(Fu h).mono fun σ H Q hh=>hh.e fun U A0 δ d R ed q=>by
 obtain ⟨x,e1,e2⟩:=bind1 ed
 cases x with
 | int i=>cases e2; exact ⟨U,A0,δ,_,R,e1,fun v H' s h=>⟨i,h.int,q H' s⟩⟩
 | _=>cases e2
theorem JT (ha:PE X e (jl X.K O ga)) (hl:PO X lo (MW X.K O gl)) (hh:PO X hi (MW X.K O gh)):PE X (.Subscript e (.Slice lo hi none p2) pos) (tN X.K O (CJ ga gl gh)):=(Cd FA ha hl hh).mono fun σ H Q hh=>hh.e fun U A0 δ d R ed q=>by
 obtain ⟨x,e1,e2⟩:=bind1 ed
 obtain ⟨l,e3,e4⟩:=bind1 e2
 obtain ⟨h,e5,e6⟩:=bind1 e4
 cases x with
 | list ds=>
   cases e6
   refine ⟨U,A0,δ,_,R,e1,fun v H1 s1 h1=>⟨U,A0,δ,l,R.same s1,e3,fun H2 s2=>⟨U,A0,δ,h,R.same (s1.trans s2),e5,fun H3 s3=>?_⟩⟩⟩
   obtain ⟨p,xs,rfl,r1,r2⟩:=(h1.same (s2.trans s3)).list
   refine ⟨p,xs,rfl,r1.sq,fun r hr=>pL ((s1.trans s2).trans s3) q r _ hr ?_⟩
   unfold Ce cutD
   rw [r2.len]
   exact (r2.Ia _).H8 _
 | _=>cases e6
end
def aD (a b:DS->Option Res):DS->Option Res:=fun δ=>(a δ).bind fun | .nx δ'=>b δ' | r=>some r
def cE:DS->Option Res:=fun δ=>some (.nx δ)
def jq (c:DS->Option Bool) (a b:DS->Option Res):DS->Option Res:=fun δ=>(c δ).bind fun x=>if x=true then a δ else b δ
def aS (i:Nat) (g:DS->Option D):DS->Option Res:=fun δ=>(g δ).bind fun d=>some (.nx (δ.set i (some d)))
def jP (i:Nat) (g:DS->Option (List D)):DS->Option Res:=fun δ=>(g δ).bind fun d=>some (.nx (δ.set i (some (.list d))))
def bH (g:DS->Option D):DS->Option Res:=fun δ=>(g δ).bind fun d=>some (.rt d)
def pQ (g:DS->Option D):DS->Option Res:=fun δ=>(g δ).bind fun _=>some (.nx δ)
def PL (g:DS->Option D) (t:D->DS->Option DS):DS->Option Res:=fun δ=>(g δ).bind fun d=>(t d δ).bind fun δ'=>some (.nx δ')
section
variable {X:Cx} {O:List Nat} {fr:Bool} {st:Stmt} {rest a b:List Stmt} {ga gb:DS->Option Res} {gc:DS->Option Bool} {ge:DS->Option D} {gl:DS->Option (List D)} {e c:Expr} {pos:Pos}
theorem ar (h1:PS X st (tS X.K O fr ga)) (h2:mE X rest (tS X.K O fr gb)):mE X (st :: rest) (tS X.K O fr (aD ga gb)):=(BW h1 h2).mono fun E σ H hh=>hh.e fun H0 U A0 δ r R F ed P=>by
 obtain ⟨r1,e1,e2⟩:=bind1 ed
 cases r1 with
 | nx δ'=>exact ⟨H0,U,A0,δ,.nx δ',R,F,e1,fun U' cZ H' R' F'=>⟨H0,U',A0,δ',r,R',F',e2,P⟩⟩
 | rt d=>cases e2; exact ⟨H0,U,A0,δ,_,R,F,e1,P⟩
 | bk d=>cases e2; exact ⟨H0,U,A0,δ,_,R,F,e1,P⟩
 | ct d=>cases e2; exact ⟨H0,U,A0,δ,_,R,F,e1,P⟩
theorem ax (h1:PS X st (tS X.K O fr ga)):mE X [st] (tS X.K O fr ga):=Fh h1
theorem da:mE X [] (tS X.K O fr cE):=Fg.mono fun E σ H hh=>hh.e fun H0 U A0 δ r R F ed P=>by cases ed; exact P U σ H R F
theorem pR:PS X st (tS X.K O fr fun _=>none):=BX.mono fun E σ H hh=>hh.e fun H0 U A0 δ r R F ed P=>by cases ed
theorem fJ (hc:PT X c (tT X.K O gc)) (ha:mE X a (tS X.K O fr ga)) (hb:mE X b (tS X.K O fr gb)):PS X (.If c a b pos) (tS X.K O fr (jq gc ga gb)):=(Mi hc ha hb).mono fun E σ H hh=>hh.e fun H0 U A0 δ r R F ed P=>by
 obtain ⟨x,e1,e2⟩:=bind1 ed
 refine ⟨U,A0,δ,x,R,e1,fun H' s=>?_⟩
 cases x with
 | true=>rw [if_pos rfl] at e2 ⊢; exact ⟨H0,U,A0,δ,r,R.same s,F.grow s,e2,P⟩
 | false=>rw [if_neg Bool.false_ne_true] at e2 ⊢; exact ⟨H0,U,A0,δ,r,R.same s,F.grow s,e2,P⟩
theorem aA {i:Nat} (h:PS X st (qV (tE X.K O ge) (jN i))) (hi:i∉O:=by decide):PS X st (tS X.K O fr (aS i ge)):=h.mono fun E σ H hh=>hh.e fun H0 U A0 δ r R F ed P=>by
 obtain ⟨d,e1,e2⟩:=bind1 ed
 cases e2
 exact ⟨U,A0,δ,d,R,e1,fun v H' s hv=>P U _ H' ((R.same s).set hi hv) (F.grow s)⟩
theorem gK {i:Nat} (h:PS X st (qV (tN X.K O gl) (jN i))) (hi:i∈O:=by decide):PS X st (tS X.K O fr (jP i gl)):=h.mono fun E σ H hh=>hh.e fun H0 U A0 δ r R F ed P=>by
 obtain ⟨d,e1,e2⟩:=bind1 ed
 cases e2
 exact ⟨U,A0,δ,d,R,e1,fun r ys H' s hr h1 h2=>P (r :: U) _ H' (R.PC s hr h1 h2 hi) (F.more s hr)⟩
theorem sZ (h:PS X st (zp (tE X.K O ge))):PS X st (tS X.K O fr (pQ ge)):=h.mono fun E σ H hh=>hh.e fun H0 U A0 δ r R F ed P=>by
 obtain ⟨d,e1,e2⟩:=bind1 ed
 cases e2
 exact ⟨U,A0,δ,d,R,e1,fun v H' s hv=>P U σ H' (R.same s) (F.grow s)⟩
theorem be (h:PE X e (tE X.K O ge)):PS X (.Return (some e) pos) (tS X.K O false (bH ge)):=(xt h).mono fun E σ H hh=>hh.e fun H0 U A0 δ r R F ed P=>by
 obtain ⟨d,e1,e2⟩:=bind1 ed
 cases e2
 refine ⟨U,A0,δ,d,R,e1,fun v H' s hv=>P v H' ?_⟩
 unfold oN
 rw [if_neg Bool.false_ne_true]
 exact ⟨F.same.trans s,hv.same (lI fun a ha=>List.mem_append_right _ ha)⟩
theorem mT (h:PE X e (tN X.K O gl)):PS X (.Return (some e) pos) (tS X.K O true (bH (bQ gl))):=(xt h).mono fun E σ H hh=>hh.e fun H0 U A0 δ r R F ed P=>by
 obtain ⟨d,e1,e2⟩:=bind1 ed
 cases e2
 unfold bQ at e1
 cases eg:gl δ with
 | none=>rw [eg] at e1; cases e1
 | some l=>
   rw [eg] at e1; cases e1
   refine ⟨U,A0,δ,l,R,eg,fun r ys H' s hr h1 h2=>P (.ref r) H' ?_⟩
   unfold oN
   rw [if_pos rfl]
   refine ⟨r,_,rfl,F.same.trans s,F.same.free hr,h1,.lst (h2.same (lI fun a ha=>?_))⟩
   rcases List.mem_cons.mp ha with z | z
   ·subst z; simp
   ·exact List.mem_cons_of_mem _ (List.mem_append_right _ z)
theorem gp {i:Nat} (h:PE X e (uX i)) (hi:i∈O:=by decide):PS X (.Return (some e) pos) (tS X.K O fr (bH (ae i))):=(xt h).mono fun E σ H hh=>hh.e fun H0 U A0 δ r R F ed P=>by
 obtain ⟨d,e1,e2⟩:=bind1 ed
 cases e2
 obtain ⟨l,o,hl,hU,h1,h2⟩:=R.ow i d hi (join_some e1)
 refine ⟨.ref l,hl,P (.ref l) H ?_⟩
 unfold oN
 split
 ·refine ⟨l,o,rfl,F.same,F.new l hU,h1,h2.same (lI fun a ha=>?_)⟩
  rcases List.mem_cons.mp ha with z | z
  ·subst z; exact List.mem_append_left _ hU
  ·exact List.mem_append_right _ z
 ·refine ⟨F.same,(h2.same (lI fun a ha=>List.mem_append_right _ ha)).hd ?_⟩
  rw [cj (F.out hU)]; exact h1
def pS (i:Nat) (g:DS->Option D):DS->Option Res:=fun δ=>(ae i δ).bind fun x=>(g δ).bind fun d=>match x with
 | .list ds=>if ds.length < 100000 then some (.nx (δ.set i (some (.list (ds ++ [d]))))) else none
 | _=>none
set_option tactic.hygienic true in
theorem gq {i:Nat} (h:PS X st (zp (Pq X.K "list" zt (uX i) (Ca (tE X.K O ge) Jm)))) (hi:i∈O:=by decide):PS X st (tS X.K O fr (pS i ge)):=h.mono fun E σ H hh=>hh.e fun H0 U A0 δ r R F ed P=>by
 obtain ⟨x,e1,e2⟩:=bind1 ed
 obtain ⟨d,e3,e4⟩:=bind1 e2
 rcases R.WN i x hi (join_some e1) with ⟨l,ys,ds,hl,rfl,hU,h1,h2⟩ | ⟨kds,rfl⟩
 rotate_left
 ·(exfalso; simp_all; done)
 simp only at e4
 split at e4
 ·rename_i hz
  cases e4
  refine ⟨.ref l,hl,.inl ⟨rfl,ys,iC.of h1⟩,U,A0,δ,d,R,e3,fun v H' s hv=>?_⟩
  have Ih:=s _ _ h1
  have JU:=h2.same (cq (A:=U ++ A0) s)
  have hlen:=h2.len
  refine ⟨l,ys,v,rfl,rfl,Ih,Ct (by omega),?_⟩
  exact P U σ _ ((R.same s).put hi hl hU (JU.app (.cons hv .nil)) ⟨_,join_some e1⟩) ((F.grow s).put hU _)
 ·cases e4
def PM (i:Nat):DS->Option Res:=fun δ=>(ae i δ).bind fun x=>match x with
 | .list ds=>if ds=[] then none else some (.nx (δ.set i (some (.list ds.dropLast))))
 | _=>none
def JV (i:Nat) (gx ge:DS->Option D):DS->Option Res:=fun δ=>(ge δ).bind fun d=>(ae i δ).bind fun x=>(gx δ).bind fun k=>match x,k with
 | .list ds,.int n=>(Js ds.length n).bind fun j=>some (.nx (δ.set i (some (.list (ds.set j d)))))
 | _,_=>none
def MX (i:Nat) (f:Int->Int->Int) (ge:DS->Option D):DS->Option Res:=fun δ=>(ae i δ).bind fun x=>(ge δ).bind fun y=>match x,y with
 | .int a,.int b=>some (.nx (δ.set i (some (.int (f a b)))))
 | _,_=>none
end
def s8 (c:DS->Option Bool) (b:DS->Option Res):Nat->DS->Option Res
 | 0,_=>none
 | n + 1,δ=>(c δ).bind fun x=>if x=true then (b δ).bind (fun | .nx δ'=>s8 c b n δ' | .ct δ'=>s8 c b n δ' | .bk δ'=>some (.nx δ') | .rt d=>some (.rt d)) else some (.nx δ)
theorem xR {c:DS->Option Bool} {b:DS->Option Res}:∀ {n:Nat} {δ:DS} {r:Res},s8 c b n δ=some r->s8 c b (n + 1) δ=some r
 | 0,_,_,h=>by cases h
 | n + 1,δ,r,h=>by
   rw [s8] at h ⊢
   obtain ⟨x,e1,e2⟩:=bind1 h
   rw [e1,Option.bind_some]
   cases x with
   | false=>exact e2
   | true=>
     rw [if_pos rfl] at e2 ⊢
     obtain ⟨q,e3,e4⟩:=bind1 e2
     rw [e3,Option.bind_some]
     cases q with
     | nx δ'=>exact xR e4
     | ct δ'=>exact xR e4
     | bk _=>exact e4
     | rt _=>exact e4
theorem CL {c:DS->Option Bool} {b:DS->Option Res} {n m:Nat} {δ:DS} {r:Res} (h:s8 c b n δ=some r) (hm:n<=m):s8 c b m δ=some r:=by
 induction hm with
 | refl=>exact h
 | step _ ih=>exact xR ih
open Classical in
def g6 (c:DS->Option Bool) (b:DS->Option Res):DS->Option Res:=fun δ=>if h:∃ p:Nat×Res,s8 c b p.1 δ=some p.2 then some (choose h).2 else none
set_option tactic.hygienic true in
theorem vB {c:DS->Option Bool} {b:DS->Option Res} {δ:DS} {r:Res} (h:g6 c b δ=some r):∃ n,s8 c b n δ=some r:=by
 unfold g6 at h
 split at h
 ·rename_i hp
  cases h
  exact ⟨_,Classical.choose_spec hp⟩
 ·cases h
theorem AY {c:DS->Option Bool} {b:DS->Option Res} {n:Nat} {δ:DS} {r:Res} (h:s8 c b n δ=some r):g6 c b δ=some r:=by
 have hp:∃ p:Nat×Res,s8 c b p.1 δ=some p.2:=⟨(n,r),h⟩
 unfold g6
 rw [dif_pos hp]
 have h2:=Classical.choose_spec hp
 have a1:=CL h (Nat.le_max_left n (Classical.choose hp).1)
 have a2:=CL h2 (Nat.le_max_right n (Classical.choose hp).1)
 rw [a1] at a2
 exact a2.symm
theorem AZ {c:DS->Option Bool} {b:DS->Option Res} (W:Nat->DS->Prop) (r:DS->Res->Prop) (m:Nat) (δ:DS) (h:W m δ)
  (hs:∀ m δ,W m δ->(c δ=some false /\ r δ (.nx δ)) \/ (c δ=some true /\ ((∃ δ' m',(b δ=some (.nx δ') \/ b δ=some (.ct δ')) /\ m' < m /\ W m' δ' /\ ∀ q,r δ' q->r δ q) \/ (∃ δ',b δ=some (.bk δ') /\ r δ (.nx δ')) \/ ∃ d,b δ=some (.rt d) /\ r δ (.rt d)))):
  ∃ q,g6 c b δ=some q /\ r δ q:=by
 suffices hh:∀ k m δ,m < k->W m δ->∃ n q,s8 c b n δ=some q /\ r δ q by
  obtain ⟨n,q,e,hq⟩:=hh (m + 1) m δ (Nat.lt_succ_self m) h
  exact ⟨q,AY e,hq⟩
 intro k
 induction k with
 | zero=>intro m δ hm; omega
 | succ k ih=>
   intro m δ hm hW
   rcases hs m δ hW with ⟨hc,hr⟩ | ⟨hc,⟨δ',m',hb,fR,Yb,imp⟩ | ⟨δ',hb,hr⟩ | ⟨d,hb,hr⟩⟩
   ·exact ⟨1,_,by rw [s8,hc]; rfl,hr⟩
   ·obtain ⟨n,q,e,hq⟩:=ih m' δ' (by omega) Yb
    refine ⟨n + 1,q,?_,imp q hq⟩
    rw [s8,hc,Option.bind_some,if_pos rfl]
    rcases hb with hb | hb <;> rw [hb,Option.bind_some] <;> exact e
   ·exact ⟨1,_,by rw [s8,hc,Option.bind_some,if_pos rfl,hb]; rfl,hr⟩
   ·exact ⟨1,_,by rw [s8,hc,Option.bind_some,if_pos rfl,hb]; rfl,hr⟩
section
variable {X:Cx} {O:List Nat} {fr:Bool} {body:List Stmt} {gb:DS->Option Res} {gc:DS->Option Bool} {c:Expr} {pos:Pos}
theorem mU (hp:PassesOwn (model X.prog X.w) X.A X.env X.xe) (hc:PT X c (tT X.K O gc)) (hb:mE X body (tS X.K O fr gb)):PS X (.While c body [] pos) (tS X.K O fr (g6 gc gb)):=(B0 hp hc hb).mono fun E σ H hh=>hh.e fun H0 U A0 δ r R F ed P=>by
 obtain ⟨n,en⟩:=vB ed
 refine ⟨fun m σ H=>∃ U δ,Rel X.K O U A0 σ δ H /\ Fx H0 A0 U H /\ s8 gc gb m δ=some r,⟨n,U,δ,R,F,en⟩,?_⟩
 rintro m σ H ⟨U,δ,R,F,em⟩
 cases m with
 | zero=>cases em
 | succ m=>
   rw [s8] at em
   obtain ⟨x,e1,e2⟩:=bind1 em
   refine ⟨U,A0,δ,x,R,e1,fun H' s=>?_⟩
   cases x with
   | false=>rw [if_neg Bool.false_ne_true] at e2 ⊢; cases e2; exact P U σ H' (R.same s) (F.grow s)
   | true=>
     rw [if_pos rfl] at e2 ⊢
     obtain ⟨q,e3,e4⟩:=bind1 e2
     refine ⟨fun cZ H'=>∃ m',m' < m + 1 /\ ∃ U δ,Rel X.K O U A0 cZ δ H' /\ Fx H0 A0 U H' /\ s8 gc gb m' δ=some r,fun _ _ h=>h,H0,U,A0,δ,q,R.same s,F.grow s,e3,?_⟩
     cases q with
     | nx δ'=>exact fun U' cZ H' R' F'=>⟨m,Nat.lt_succ_self m,U',δ',R',F',e4⟩
     | ct δ'=>exact fun U' cZ H' R' F'=>⟨m,Nat.lt_succ_self m,U',δ',R',F',e4⟩
     | bk δ'=>cases e4; exact P
     | rt d=>cases e4; exact P
end
def aL (i:Nat):D->DS->Option DS:=fun d δ=>some (δ.set i (some d))
def gT (n:Nat) (g:List D->DS->Option DS):D->DS->Option DS:=fun d δ=>match d with
 | .tuple ds=>if ds.length=n then g ds δ else none
 | _=>none
def hZ:List D->DS->Option DS:=fun ds δ=>if ds=[] then some δ else none
def bN (t:D->DS->Option DS) (u:List D->DS->Option DS):List D->DS->Option DS:=fun ds δ=>match ds with
 | d :: r=>(t d δ).bind fun δ'=>u r δ'
 | []=>none
def LJ (K:PySem.W.Frag) (O:List Nat) (g:List D->DS->Option DS):Fi:=fun vs σ H Q=>∃ U A0 δ ds δ',Rel K O U A0 σ δ H /\ cv K (wo H (U ++ A0)) vs ds /\ g ds δ=some δ' /\ ∀ cZ,Rel K O U A0 cZ δ' H->Q cZ H
theorem LJ.e {K:PySem.W.Frag} {O:List Nat} {g:List D->DS->Option DS}  {vs:_} {σ:_} {H:_} {Q:_} {GG:Prop} (hh:LJ K O g vs σ H Q) (kk:∀ U A0 δ ds δ',(Rel K O U A0 σ δ H)->(cv K (wo H (U ++ A0)) vs ds)->(g ds δ=some δ')->(∀ cZ,Rel K O U A0 cZ δ' H->Q cZ H)->GG):GG:=by obtain ⟨U,A0,δ,ds,δ',x0,x1,x2,x3⟩:=hh; exact kk U A0 δ ds δ' x0 x1 x2 x3
section
variable {X:Cx} {O:List Nat} {e:Expr} {es:List Expr} {pos:Pos}
theorem BY.mono {t t':Fi} (h:BY X es t) (m:∀ v σ H Q,t' v σ H Q->t v σ H Q):BY X es t':=fun pins s σ H v u Q I r q=>h pins s σ H v u Q I r (m v σ H Q q)
theorem aG {i:Nat} (h:PG X e (jN i)) (hi:i∉O:=by decide):PG X e (tG X.K O (aL i)):=h.mono fun v σ H Q hh=>hh.e fun U A0 δ d δ' R hd e1 q=>by
 cases e1
 exact q _ (R.set hi hd)
set_option tactic.hygienic true in
theorem iL:BY X [] (LJ X.K O hZ):=Fj.mono fun vs σ H Q hh=>hh.e fun U A0 δ ds δ' R hd e1 q=>by
 unfold hZ at e1
 split at e1
 ·rename_i hz
  cases e1
  subst hz
  cases hd
  exact ⟨rfl,q σ R⟩
 ·cases e1
theorem cf {t:D->DS->Option DS} {u:List D->DS->Option DS} (h1:PG X e (tG X.K O t)) (h2:BY X es (LJ X.K O u)) (hs:(assignEach (e :: es) X.env).map (·.2)=assign e X.env :: (assignEach es X.env).map (·.2):=by rfl):BY X (e :: es) (LJ X.K O (bN t u)):=
 (BZ h1 h2 hs).mono fun vs σ H Q hh=>hh.e fun U A0 δ ds δ' R hd e1 q=>by
  cases hd with
  | nil=>cases e1
  | cons hx hr=>
    obtain ⟨dW,e2,e3⟩:=bind1 e1
    exact ⟨_,_,rfl,U,A0,δ,_,dW,R,hx,e2,fun Ja R1=>⟨U,A0,dW,_,δ',R1,hr,e3,q⟩⟩
set_option tactic.hygienic true in
theorem iM {n k:Nat} {t:List D->DS->Option DS} (hc:X.calm=true) (h:BY X es (LJ X.K O t)) (hn:(assignEach es X.env).length=n:=by rfl) (Mk:(assignEach es X.env).findIdx? (·.1)=none:=by rfl):PG X (.Tuple es k pos) (tG X.K O (gT n t)):=
 (Jb hc h hn Mk).mono fun v σ H Q hh=>hh.e fun U A0 δ d δ' R hd e1 q=>by
  unfold gT at e1
  split at e1
  ·split at e1
   ·rename_i hz
    obtain ⟨a,xs,rfl,h1,h2⟩:=(ia.of hd).tuple
    exact ⟨a,xs,rfl,h1,by rw [h2.len]; exact hz,U,A0,δ,_,δ',R,h2,e1,q⟩
   ·cases e1
  ·cases e1
end
def jV (t:D->DS->Option DS) (b:DS->Option Res):List D->DS->Option Res
 | [],δ=>some (.nx δ)
 | d :: ds,δ=>(t d δ).bind fun dW=>(b dW).bind fun | .nx δ'=>jV t b ds δ' | .ct δ'=>jV t b ds δ' | .bk δ'=>some (.nx δ') | .rt d=>some (.rt d)
def d3 (gi:DS->Option (List D)) (t:D->DS->Option DS) (b:DS->Option Res):DS->Option Res:=fun δ=>(gi δ).bind fun ds=>jV t b ds δ
set_option tactic.hygienic true in
theorem oN.trans {K:PySem.W.Frag} {fr:Bool} {H0 H H':Hp} {A0 U:List Addr} {v:V} {d:D} (F:Fx H0 A0 U H) (h:oN K fr (wo H U) A0 v d H'):oN K fr H0 A0 v d H':=by
 have k:∀ a o,H0 a=some o->wo H U a=some o:=fun a o e=>by
  rw [cj fun z=>?_]
  ·exact F.same _ _ e
  ·rw [F.new a z] at e; cases e
 unfold oN at h ⊢
 split
 ·rename_i hf
  rw [if_pos hf] at h
  obtain ⟨r,ob,a,c,e,f,g⟩:=h
  refine ⟨r,ob,a,fun x o q=>c _ _ (k x o q),?_,f,g⟩
  cases q:H0 r with
  | none=>rfl
  | some o=>rw [k r o q] at e; cases e
 ·rename_i hf
  rw [if_neg hf] at h
  exact ⟨fun x o q=>h.1 _ _ (k x o q),h.2⟩
section
variable {X:Cx} {O:List Nat} {fr:Bool} {body:List Stmt} {gb:DS->Option Res} {gi:DS->Option (List D)} {tg iter:Expr} {gt:D->DS->Option DS} {pos:Pos}
theorem de (hp:PassesOwn (model X.prog X.w) X.A X.env X.xe) (hc:X.calm=true) (hi:PI X tg iter (tI X.K O gi)) (hg:PG X tg (tG X.K O gt)) (hb:mE X body (tS X.K O fr gb))
  (hs:∀ x,foldedSetIterable iter X.env x=pure x:=by intro _; rfl):PS X (.For tg iter body [] pos) (tS X.K O fr (d3 gi gt gb)):=(Je hp hc hi hg hb hs).mono fun E σ H hh=>hh.e fun H0 U A0 δ r R F ed P=>by
 obtain ⟨ds,e1,e2⟩:=bind1 ed
 refine ⟨U,A0,δ,ds,R,e1,fun J H1 s hw=>?_⟩
 have F1:=F.grow s
 refine ⟨fun i m σ H=>m=ds.length - i /\ i<=ds.length /\ ∃ U2 δ,Rel X.K O U2 A0 σ δ H /\ Fx H0 A0 U2 H /\ Fx (wo H1 U) A0 U2 H /\ jV gt gb (ds.drop i) δ=some r,⟨ds.length,by simp,Nat.zero_le _,U,δ,R.same s,F1,F1.here,by simpa using e2⟩,?_⟩
 rintro i m σ H ⟨rfl,hle,U2,δ,R2,F2,G2,ef⟩
 obtain ⟨MY,vC⟩:=hw (U2 ++ A0) i H G2.keeps R2.al
 by_cases fR:i < ds.length
 ·obtain ⟨d,hd⟩:∃ d,ds[i]?=some d:=⟨_,List.getElem?_eq_getElem fR⟩
  have zK:ds.drop i=d :: ds.drop (i + 1):=by
   rw [List.drop_eq_getElem_cons fR]
   rw [List.getElem?_eq_getElem fR] at hd
   cases hd; rfl
  obtain ⟨go,hy⟩:=MY d hd
  rw [zK,jV] at ef
  obtain ⟨dW,e3,e4⟩:=bind1 ef
  obtain ⟨q,e5,e6⟩:=bind1 e4
  refine .inr ⟨go,fun cZ H'=>∃ m',m' < ds.length - i /\ (m'=ds.length - (i + 1) /\ i + 1<=ds.length /\ ∃ U2 δ,Rel X.K O U2 A0 cZ δ H' /\ Fx H0 A0 U2 H' /\ Fx (wo H1 U) A0 U2 H' /\ jV gt gb (ds.drop (i + 1)) δ=some r),fun _ _ h=>h,fun x H2 y=>?_⟩
  obtain ⟨s2,hx⟩:=hy x H2 y
  refine ⟨U2,A0,δ,d,dW,R2.same s2,hx,e3,fun cZ R'=>?_⟩
  have F3:=F2.grow s2
  have G3:=G2.grow s2
  refine ⟨wo H2 U2,U2,A0,dW,q,R',F3.here,e5,?_⟩
  cases q with
  | nx δ'=>exact fun U' cZ H' R' F'=>⟨_,by omega,rfl,fR,U',δ',R',F3.trans F',G3.trans F',e6⟩
  | ct δ'=>exact fun U' cZ H' R' F'=>⟨_,by omega,rfl,fR,U',δ',R',F3.trans F',G3.trans F',e6⟩
  | bk δ'=>cases e6; exact fun U' cZ H' R' F'=>P U' cZ H' R' (F3.trans F')
  | rt d=>cases e6; exact fun v H' h=>P v H' (h.trans F3)
 ·have hi:i=ds.length:=by omega
  subst hi
  rw [List.drop_length,jV] at ef
  cases ef
  exact .inl ⟨vC rfl,P U2 σ H R2 F2⟩
end
def fT (lo:Int) (n:Nat):List D:=(List.range n).map fun k:Nat=>PyData.int (lo + k)
theorem xS {lo:Int} {n i:Nat} {d:D} (h:(fT lo n)[i]?=some d):i < n /\ d=.int (lo + i):=by
 unfold fT at h
 rw [List.getElem?_map] at h
 cases e:(List.range n)[i]? with
 | none=>rw [e] at h; cases h
 | some k=>
   rw [e] at h; cases h
   have hi:=(List.getElem?_eq_some_iff.mp e).1
   rw [List.length_range] at hi
   rw [List.getElem?_range hi] at e
   cases e
   exact ⟨hi,rfl⟩
theorem xT {lo:Int} {n:Nat}:(fT lo n).length=n:=by unfold fT; simp
theorem oB {K:PySem.W.Frag} {A:List Addr} {H1:Hp} {lo:Int} {n:Nat}:Walks K A H1 (Mn lo n) (fT lo n):=by
 intro A' i H _ _
 refine ⟨fun d hd=>?_,fun hi=>?_⟩
 ·obtain ⟨hi,rfl⟩:=xS hd
  refine ⟨hi,fun x H2 y=>?_⟩
  obtain ⟨rfl,rfl⟩:=y
  exact ⟨aH.refl _,.int _⟩
 ·rw [xT] at hi
  subst hi
  exact Nat.le_refl _
def eK (g:DS->Option (List D)):DS->Option (List D):=fun δ=>(g δ).bind fun | [.int j]=>if -(2 ^ 62)<=j /\ j < 2 ^ 62 then some (fT 0 j.toNat) else none | _=>none
def oY (g:DS->Option (List D)):DS->Option (List D):=fun δ=>(g δ).bind fun | [.int i,.int j]=>if -(2 ^ 62)<=i /\ i < 2 ^ 62 /\ -(2 ^ 62)<=j /\ j < 2 ^ 62 then some (fT i (j - i).toNat) else none | _=>none
def a9 (g:DS->Option D):DS->Option (List D):=fun δ=>(g δ).bind fun | .list l=>some l | .tuple l=>some l | _=>none
section
variable {X:Cx} {O:List Nat} {tg a b e:Expr} {gr:DS->Option (List D)} {ge:DS->Option D} {pos p:Pos}
set_option tactic.hygienic true in
theorem gu (hm:X.mg "range"=none) (ha:PA X [a] (AW X.K O gr)) (hg:Gl X "range":=by rfl) (hs:starEach [a] X.env=[(false,eval a X.env)]:=by rfl):PI X tg (.Call (.Name "range" p) [a] [] pos) (tI X.K O (eK gr)):=(AF hg hm ha hs).mono fun σ H Q hh=>hh.e fun U A0 δ ds R ed q=>by
 obtain ⟨x,e1,e2⟩:=bind1 ed
 refine ⟨U,A0,δ,x,R,e1,fun vs H' s h=>?_⟩
 split at e2
 ·split at e2
  ·rename_i hz
   cases e2
   cases h with
   | cons h1 h2=>
     cases h2
     cases h1
     exact ⟨_,rfl,hz.1,hz.2,q _ H' s oB⟩
  ·cases e2
 ·cases e2
set_option tactic.hygienic true in
theorem A1 (hm:X.mg "range"=none) (ha:PA X [a,b] (AW X.K O gr)) (hg:Gl X "range":=by rfl) (hs:starEach [a,b] X.env=[(false,eval a X.env),(false,eval b X.env)]:=by rfl) (kA:starEach [b] X.env=[(false,eval b X.env)]:=by rfl):PI X tg (.Call (.Name "range" p) [a,b] [] pos) (tI X.K O (oY gr)):=(AG hg hm ha hs kA).mono fun σ H Q hh=>hh.e fun U A0 δ ds R ed q=>by
 obtain ⟨x,e1,e2⟩:=bind1 ed
 refine ⟨U,A0,δ,x,R,e1,fun vs H' s h=>?_⟩
 split at e2
 ·split at e2
  ·rename_i hz
   cases e2
   cases h with
   | cons h1 h2=>cases h2 with
     | cons h2 h3=>
       cases h3
       cases h1
       cases h2
       exact ⟨_,_,rfl,hz,q _ H' s oB⟩
  ·cases e2
 ·cases e2
def PN (K:PySem.W.Frag) (tl:TE):TI:=fun σ H R=>tl σ H fun x H1=>(∃ a,x=.ref a /\ (∃ xs,iC K H1 a xs) /\ R (Wz K a) H1) \/ ∃ a,x=.ref a /\ (∃ xs,jn K H1 a xs) /\ R (WA K a) H1
theorem JW {l:Expr} {tl:TE} (hl:PE X l tl):PI X tg l (PN X.K tl):=by
 intro pins s σ H R I h
 refine dZ (hl pins s σ H _ I h) fun v s1 ⟨x,H1,I1,r1,q1⟩=>?_
 rcases q1 with ⟨a,e,⟨xs,hq⟩,q⟩ | ⟨a,e,⟨xs,hq⟩,q⟩
 ·subst e
  cases r1
  obtain ⟨its,rv,p,hz⟩:=I1.list hq
  refine wpAny_pyIter_list p.isList ?_
  refine ⟨s1.heap.objs.size,[s1.heap.objs.size],_,_,H1,rfl,I1.kept (t':=s1.toks) fun b o e=>Heap.get?_push_of_some _ e,AE a _,⟨_,Heap.get?_push_size _ rfl,rfl,rfl⟩,fun b hb=>?_,q⟩
  have e:b=s1.heap.objs.size:=by simpa using hb
  subst e
  exact I1.mG (Nat.le_refl _) (I1.cg.fresh (Nat.le_refl _))
 ·subst e
  cases r1
  obtain ⟨its,rv,p,hz⟩:=I1.tuple hq
  refine wpAny_pyIter_tuple (show s1.heap.IsTuple a its.toArray from p) ?_
  refine ⟨s1.heap.objs.size,[s1.heap.objs.size],_,_,H1,rfl,I1.kept (t':=s1.toks) fun b o e=>Heap.get?_push_of_some _ e,xw a _,⟨_,Heap.get?_push_size _ rfl,rfl,rfl⟩,fun b hb=>?_,q⟩
  have e:b=s1.heap.objs.size:=by simpa using hb
  subst e
  exact I1.mG (Nat.le_refl _) (I1.cg.fresh (Nat.le_refl _))
theorem cc (h:PE X e (tE X.K O ge)):PI X tg e (tI X.K O (a9 ge)):=(JW h).mono fun σ H Q hh=>hh.e fun U A0 δ ds R ed q=>by
 obtain ⟨x,e1,e2⟩:=bind1 ed
 cases x with
 | list l=>
   cases e2
   refine ⟨U,A0,δ,_,R,e1,fun v H' s h=>?_⟩
   cases h with
   | lst hq h=>
     refine .inl ⟨_,rfl,⟨_,(hq.same cb).sq⟩,q _ H' s ?_⟩
     intro A' i H2 s2 _
     have A2:=hq.same s2
     have h2:=h.same s2
     have hL:iC X.K H2 _ _:=(A2.same cb).sq
     refine ⟨fun d hd=>?_,fun hi=>⟨_,hL,by rw [h2.len]; omega⟩⟩
     obtain ⟨x,hx,MZ⟩:=h2.get hd
     refine ⟨⟨_,x,hL,hx⟩,fun y H3 hy=>?_⟩
     obtain ⟨rfl,hy⟩:=hy
     have:=hy _ hL
     rw [hx] at this
     cases this
     exact ⟨aH.refl _,MZ⟩
 | tuple l=>
   cases e2
   refine ⟨U,A0,δ,_,R,e1,fun v H' s h=>?_⟩
   cases h with
   | tup hq h=>
     refine .inr ⟨_,rfl,⟨_,(.inl (cb.lH hq))⟩,q _ H' s ?_⟩
     intro A' i H2 s2 _
     have A2:=s2.lH hq
     have h2:=h.same s2
     have hL:jn X.K H2 _ _:=.inl (cb.lH A2)
     refine ⟨fun d hd=>?_,fun hi=>⟨_,hL,by rw [h2.len]; omega⟩⟩
     obtain ⟨x,hx,MZ⟩:=h2.get hd
     refine ⟨⟨_,x,hL,hx⟩,fun y H3 hy=>?_⟩
     obtain ⟨rfl,hy⟩:=hy
     have:=hy _ hL
     rw [hx] at this
     cases this
     exact ⟨aH.refl _,MZ⟩
 | _=>cases e2
end
def df (ix:List Nat) (δ:DS):DS:=ix.map fun j=>(δ[j]?).join
def CM (f:D->Option D):List D->Option (List D)
 | []=>some []
 | d :: ds=>(f d).bind fun x=>(CM f ds).bind fun xs=>some (x :: xs)
def fU (gi:DS->Option (List D)) (ix:List Nat) (ge:DS->Option D):DS->Option (List D):=fun δ=>(gi δ).bind fun ds=>if ds.length<=100000 then CM (fun d=>ge (some d :: df ix δ)) ds else none
section
variable {X:Cx} {O:List Nat} {fr:Bool} {scope:Scope} {x:Str} {elt iter:Expr} {px pos:Pos} {gi:DS->Option (List D)} {ge:DS->Option D}
theorem PS.nE {st:Stmt} {i:Nat} {g:DS->Option (List D)} (h:PS X st (qV (tN X.K O g) (jN i))):PS X st (qV (tE X.K O (bQ g)) (jN i)):=h.mono fun _ _ _ h=>Ic h
end
def dD:Res->Option D
 | .rt d=>some d
 | .nx _=>some .none
 | _=>none
def jQ:Res->Option (List D)
 | .rt (.list l)=>some l
 | _=>none
def d6 (n:Nat) (g:DS->Option Res):List D->Option D:=fun ds=>(g (ds.map some ++ List.replicate (n - ds.length) none)).bind dD
def jR (n:Nat) (g:DS->Option Res):List D->Option (List D):=fun ds=>(g (ds.map some ++ List.replicate (n - ds.length) none)).bind jQ
theorem Rel.start {K:PySem.W.Frag} {O:List Nat} {A:List Addr} {N:List Str} {vs:List V} {ds:List D} {H:Hp} (al:Ls A H) (h:cv K (wo H A) vs ds) (hO:∀ i∈O,ds.length<=i):Rel K O [] A (start N vs) (ds.map some ++ List.replicate (N.length - ds.length) none) H:=by
 have hl:=h.len
 have none_of:∀ (i:Nat) d,ds.length<=i->(ds.map some ++ List.replicate (N.length - ds.length) none)[i]?=some (some d)->False:=by
  intro i d hi q
  rw [List.getElem?_append_right (by simpa using hi)] at q
  have:=List.mem_of_getElem? q
  rw [List.mem_replicate] at this
  exact absurd this.2 (by simp)
 exact {
  len:=by unfold L2.start; simp [hl]
  fz:=fun i d _ q=>by
   by_cases hi:i < ds.length
   ·rw [List.getElem?_append_left (by simpa using hi),List.getElem?_map,List.getElem?_eq_getElem hi] at q
    simp only [Option.map_some,Option.some.injEq] at q
    obtain ⟨v,e,hv⟩:=h.get (List.getElem?_eq_getElem hi)
    refine ⟨v,?_,?_⟩
    ·unfold L2.start
     rw [List.getElem?_append_left (by rw [List.length_map]; omega),List.getElem?_map,e]; rfl
    ·rw [List.nil_append,<- q]; exact hv
   ·exact (none_of i d (by omega) q).elim
  ow:=fun i d hi q=>(none_of i d (hO i hi) q).elim
  inj:=fun i j d e l hi _ _ q=>(none_of i d (hO i hi) q).elim
  al:=al }
theorem Fx.start {A:List Addr} {H:Hp} (al:Ls A H):Fx H A [] H:=⟨aH.refl H,fun _ h=>by simp at h,al⟩
section
variable {P:Program} {w:World} {K:PySem.W.Frag} {mg:Str->Option Value} {base:Heap} {x:Str} {st:Stmt} {N ps:List Str} {k:Nat}
theorem bG (O:List Nat) (g:DS->Option Res) (F:Df K mg x st ps) (S:aI N ps (aq st))
  (body:∀ (f:Addr) (cR:Value) (A:Around) (outer:List Env) (s:Shared) (H:Hp) (E:XK),c8 k (A.deeper (envOfC x (aq st) s.heap.objs.size f cR))->mE (pB oX P w K mg base N x (aq st) f cR A outer s H E).EU (eI st) (tS K O false g))
  (hO:∀ i∈O,ps.length<=i:=by decide) {n m:Nat} (hN:N.length=n:=by rfl) (hP:ps.length=m:=by rfl):Dn P w K mg base (k + 1) x ps (cS K m (d6 n g)):=by
 subst hN hP
 refine F.ok S (fun vs H Q E h=>h.1) (fun f cR A outer s H vs Q E hr h=>⟨_,body f cR A outer s H E hr,?_⟩)
 obtain ⟨hn,A',ds,d,al,hd,e,q⟩:=h
 obtain ⟨r,e1,e2⟩:=bind1 e
 refine ⟨H,[],A',_,r,Rel.start al hd (fun i hi=>by have:=hO i hi; rw [<- hd.len,hn]; exact this),Fx.start al,e1,?_⟩
 cases r with
 | nx δ=>cases e2; exact fun U σ H' R F'=>q .h8 H' F'.same .h8
 | rt d=>cases e2; exact fun v H' h=>by unfold oN at h; rw [if_neg Bool.false_ne_true] at h; exact q v H' h.1 h.2
 | bk _=>cases e2
 | ct _=>cases e2
theorem M0 {f:Addr} {fd:FuncData} (O:List Nat) (g:DS->Option Res) (F:Ck K x x st f fd) (S:aI N ps (aq st))
  (body:∀ (f:Addr) (cR:Value) (A:Around) (outer:List Env) (s:Shared) (H:Hp) (E:XK),c8 k (A.deeper (envOfC x (aq st) s.heap.objs.size f cR))->mE (pB oX P w K mg base N x (aq st) f cR A outer s H E).EU (eI st) (tS K O false g))
  (hO:∀ i∈O,ps.length<=i:=by decide) {n m:Nat} (hN:N.length=n:=by rfl) (hP:ps.length=m:=by rfl):lF P w K mg base oX (k + 1) f fd ps (cS K m (d6 n g)):=by
 subst hN hP
 refine F.ok S (fun vs H Q E h=>h.1) (fun cR A outer s H vs Q E hr h=>⟨_,body f cR A outer s H E hr,?_⟩)
 obtain ⟨hn,A',ds,d,al,hd,e,q⟩:=h
 obtain ⟨r,e1,e2⟩:=bind1 e
 refine ⟨H,[],A',_,r,Rel.start al hd (fun i hi=>by have:=hO i hi; rw [<- hd.len,hn]; exact this),Fx.start al,e1,?_⟩
 cases r with
 | nx δ=>cases e2; exact fun U σ H' R F'=>q .h8 H' F'.same .h8
 | rt d=>cases e2; exact fun v H' h=>by unfold oN at h; rw [if_neg Bool.false_ne_true] at h; exact q v H' h.1 h.2
 | bk _=>cases e2
 | ct _=>cases e2
theorem iN (O:List Nat) (g:DS->Option Res) (F:Df K mg x st ps) (S:aI N ps (aq st))
  (body:∀ (f:Addr) (cR:Value) (A:Around) (outer:List Env) (s:Shared) (H:Hp) (E:XK),c8 k (A.deeper (envOfC x (aq st) s.heap.objs.size f cR))->mE (pB oX P w K mg base N x (aq st) f cR A outer s H E).EU (eI st) (tS K O true g))
  (hO:∀ i∈O,ps.length<=i:=by decide) {n m:Nat} (hN:N.length=n:=by rfl) (hP:ps.length=m:=by rfl):Dn P w K mg base (k + 1) x ps (oz K m (jR n g)):=by
 subst hN hP
 refine F.ok S (fun vs H Q E h=>h.1) (fun f cR A outer s H vs Q E hr h=>⟨_,body f cR A outer s H E hr,?_⟩)
 obtain ⟨hn,A',ds,d,al,hd,e,q⟩:=h
 obtain ⟨r,e1,e2⟩:=bind1 e
 refine ⟨H,[],A',_,r,Rel.start al hd (fun i hi=>by have:=hO i hi; rw [<- hd.len,hn]; exact this),Fx.start al,e1,?_⟩
 cases r with
 | rt d'=>
   intro v H' h
   unfold oN at h
   rw [if_pos rfl] at h
   obtain ⟨r,ob,rfl,a,b,c,f⟩:=h
   cases f with
   | lst f=>cases e2; exact q r _ H' a b c f
   | qO _ _=>cases e2
 | nx δ=>cases e2
 | bk _=>cases e2
 | ct _=>cases e2
end
def nK (f f':D->D->Option D) (a b c:DS->Option D):DS->Option D:=fun δ=>(a δ).bind fun x=>(b δ).bind fun y=>(f x y).bind fun z=>match z with
 | .bool true=>(c δ).bind fun w=>f' y w
 | .bool false=>some (.bool false)
 | _=>none
section
variable {X:Cx} {O:List Nat} {a b c:Expr} {ga gb gc:DS->Option D} {pos:Pos} {r r':R2}
theorem CN {K:PySem.W.Frag} {f f':D->D->Option D} (imp:jo K r f) (imp':jo K r' f') {σ:St} {H:Hp} {Q:VK}:tE K O (nK f f' ga gb gc) σ H Q->B7 r r' (jl K O ga) (jl K O gb) (jl K O gc) σ H Q:=fun ⟨U,A0,δ,d,R,ed,q⟩=>by
 obtain ⟨x,e1,ed⟩:=bind1 ed
 obtain ⟨y,e2,ed⟩:=bind1 ed
 obtain ⟨z,e3,ed⟩:=bind1 ed
 refine ⟨U,A0,δ,x,R,e1,fun v1 H1 s1 h1=>⟨U,A0,δ,y,R.same s1,e2,fun v2 H2 s2 h2=>imp _ H2 v1 v2 x y z _ (R.same (s1.trans s2)).al (h1.same s2) h2 e3 fun v3 H3 s3 h3=>?_⟩⟩
 cases z with
 | bool k=>
   cases h3
   refine ⟨k,rfl,?_⟩
   cases k with
   | true=>
     obtain ⟨w,e4,e5⟩:=bind1 ed
     first
      | rw [if_pos rfl]
      | skip
     exact ⟨U,A0,δ,w,R.same ((s1.trans s2).trans s3),e4,fun v4 H4 s4 h4=>imp' _ H4 v2 v4 y w d Q (R.same (((s1.trans s2).trans s3).trans s4)).al (h2.same (s3.trans s4)) h4 e5 fun v H' s h=>q v H' ((((s1.trans s2).trans s3).trans s4).trans s) h⟩
   | false=>
     cases ed
     first
      | rw [if_neg Bool.false_ne_true]
      | skip
     exact q _ H3 ((s1.trans s2).trans s3) (.bl _)
 | _=>cases ed
theorem CO {op Jj:CmpOp} {f f':D->D->Option D} (ho:iV X (compareOp op) r) (imp:jo X.K r f) (BV:iV X (compareOp Jj) r') (imp':jo X.K r' f') (ha:PE X a (jl X.K O ga)) (hb:PE X b (jl X.K O gb)) (hc:PE X c (jl X.K O gc)) (hm:lastMarks [op,Jj] [b,c]=false:=by with_unfolding_all rfl):PE X (.Compare a [op,Jj] [b,c] pos) (tE X.K O (nK f f' ga gb gc)):=(B8 ho BV ha hb hc hm).mono fun _ _ _=>CN imp imp'
end
def FY (i j:Nat) (g:DS->Option (List D)):DS->Option Res:=fun δ=>(g δ).bind fun | [x,y]=>some (.nx ((δ.set i (some x)).set j (some y))) | _=>none
section
variable {X:Cx} {O:List Nat} {fr:Bool} {st:Stmt} {gr:DS->Option (List D)} {i j:Nat}
theorem JX (h:PS X st (Ml i j (AW X.K O gr))) (hi:i∉O:=by decide) (hj:j∉O:=by decide):PS X st (tS X.K O fr (FY i j gr)):=h.mono fun E σ H hh=>hh.e fun H0 U A0 δ r R F ed P=>by
 obtain ⟨ds,e1,e2⟩:=bind1 ed
 split at e2
 ·cases e2
  refine ⟨U,A0,δ,_,R,e1,fun vs H' s hv=>?_⟩
  cases hv with
  | cons h1 h2=>cases h2 with
    | cons h2 h3=>
      cases h3
      exact ⟨_,_,rfl,P U _ H' (((R.same s).set hi h1).set hj h2) (F.grow s)⟩
 ·cases e2
end
def vD:D->Option D
 | .int i=>some (.int (Builtin.Int.intBits i:Nat))
 | _=>none
theorem zL {X:Cx} {O:List Nat} {o:Expr} {ga:DS->Option D} {apos gR:Pos} (ho:PE X o (jl X.K O ga)) (pE:attributeBase o "bit_length" X.env (eval o X.env)=eval o X.env:=by rfl) (pF:(apos.endLine == gR.line)=true:=by rfl):
  PE X (.Call (.Attribute o "bit_length" apos) [] [] gR) (tE X.K O (g1 vD ga)):=(FH ho pE pF).mono fun σ H Q hh=>hh.e fun U A0 δ d R ed q=>by
 obtain ⟨x,e1,e2⟩:=bind1 ed
 cases x with
 | int i=>
   cases e2
   refine ⟨U,A0,δ,_,R,e1,fun v H' s h=>?_⟩
   rw [h.int]
   exact ⟨rfl,i,rfl,rfl,q _ H' s (.int _)⟩
 | _=>cases e2
abbrev JY:D->D->Option D:=Ie (fun _ j=>0<=j) fun i j=>.int (i / 2 ^ j.toNat)
def ka:D->Bool
 | .none | .bool _ | .int _ | .str _=>true
 | _=>false
def dV:D->V
 | .none=>.h8
 | .bool b=>.bl b
 | .int i=>.int i
 | .str x=>.str x
 | _=>.h8
def JZ (a b:D):Bool:=EX (dV a) (dV b)
def J0:D->D->Option D:=fun x y=>match y with
 | .list l=>if (ka x && l.all ka)=true then some (.bool (l.any fun z=>JZ z x)) else none
 | .tuple l=>if (ka x && l.all ka)=true then some (.bool (l.any fun z=>JZ z x)) else none
 | _=>none
def tf:D->D->Option D:=fun x y=>(J0 x y).bind fun | .bool c=>some (.bool (!c)) | _=>none
theorem ia.flat {K:PySem.W.Frag} {A:List Addr} {H:Hp} {v:V} {d:D} (h:ia K A H v d) (f:ka d=true):v=dV d /\ jO v=true:=by
 cases d with
 | none=>rw [h.h8]; exact ⟨rfl,rfl⟩
 | bool b=>rw [h.bool]; exact ⟨rfl,rfl⟩
 | int i=>rw [h.int]; exact ⟨rfl,rfl⟩
 | str x=>rw [h.str]; exact ⟨rfl,rfl⟩
 | _=>cases f
theorem cv.flat {K:PySem.W.Frag} {H:Hp}:∀ {xs:List V} {ds:List D},cv K H xs ds->ds.all ka=true->xs=ds.map dV /\ xs.all jO=true
 | _,_,.nil,_=>⟨rfl,rfl⟩
 | _,_,.cons h t,f=>by
   rw [List.all_cons,Bool.and_eq_true] at f
   obtain ⟨e1,e2⟩:=cv.flat t f.2
   obtain ⟨e3,e4⟩:=(ia.of (A:=[]) (by rw [pJ]; exact h)).flat f.1
   exact ⟨by rw [List.map_cons,<- e1,<- e3],by rw [List.all_cons,e4,e2]; rfl⟩
theorem Ii (x:D) (l:List D):Jx (dV x) (l.map dV)=l.any fun z=>JZ z x:=by
 unfold Jx JZ
 rw [List.any_map]; rfl
section
variable {X:Cx}
theorem J1:iV X (compareOp .In) (LG X.K false):=AM
theorem A3:iV X (compareOp .NotIn) (LG X.K true):=sO
end
set_option tactic.hygienic true in
theorem zM {K:PySem.W.Frag} {A:List Addr} {H:Hp} {x y:V} {dx dy d:D} (hx:ia K A H x dx) (hy:ia K A H y dy) (e:J0 dx dy=some d):∃ p xs b,y=.ref p /\ (iC K H p xs \/ jn K H p xs) /\ jO x=true /\ xs.all jO=true /\ d=.bool b /\ Jx x xs=b:=by
 unfold J0 at e
 split at e
 ·split at e
  ·rename_i hf
   rw [Bool.and_eq_true] at hf
   cases e
   obtain ⟨p,xs,rfl,h1,h2⟩:=hy.list
   obtain ⟨e1,e2⟩:=h2.flat hf.2
   obtain ⟨e3,e4⟩:=hx.flat hf.1
   exact ⟨p,xs,_,rfl,.inl h1.sq,e4,e2,rfl,by rw [e1,e3,Ii]⟩
  ·cases e
 ·split at e
  ·rename_i hf
   rw [Bool.and_eq_true] at hf
   cases e
   obtain ⟨p,xs,rfl,h1,h2⟩:=hy.tuple
   obtain ⟨e1,e2⟩:=h2.flat hf.2
   obtain ⟨e3,e4⟩:=hx.flat hf.1
   exact ⟨p,xs,_,rfl,.inr h1,e4,e2,rfl,by rw [e1,e3,Ii]⟩
  ·cases e
 ·cases e
theorem J4 {K:PySem.W.Frag}:jo K (LG K false) J0:=by
 intro A H x y dx dy d Q al hx hy e q
 obtain ⟨p,xs,b,h1,h2,h3,h4,rfl,h5⟩:=zM hx hy e
 refine ⟨p,xs,h1,h2,h3,h4,?_⟩
 show Q (.bl (Jx x xs)) H
 rw [h5]
 exact q _ H (aH.refl H) (.bl _)
theorem A4 {K:PySem.W.Frag}:jo K (LG K true) tf:=by
 intro A H x y dx dy d Q al hx hy e q
 obtain ⟨c,e1,e2⟩:=bind1 e
 obtain ⟨p,xs,b,h1,h2,h3,h4,rfl,h5⟩:=zM hx hy e1
 cases e2
 refine ⟨p,xs,h1,h2,h3,h4,?_⟩
 show Q (.bl (!Jx x xs)) H
 rw [h5]
 exact q _ H (aH.refl H) (.bl _)
theorem zN (a b:Int):JZ (.int a) (.int b)=decide (a=b):=by
 simp only [JZ,dV,EX]
 rw [Bool.beq_eq_decide_eq]
def iD (G:List D->Option (List D)) (n:Nat) (g:DS->Option (List D)):DS->Option (List D):=fun δ=>(g δ).bind fun ds=>if ds.length=n then (G ds).bind fun d=>if nG d=true then some d else none else none
set_option tactic.hygienic true in
theorem lK {X:Cx} {O:List Nat} {e:Expr} {es:List Expr} {gr:DS->Option (List D)} {pos p:Pos} {n k kk:Nat} {x:Str} {ps:List Str} {G:List D->Option (List D)} (F:Dn X.prog X.w X.K X.mg X.base k x ps (oz X.K n G)) (hr:c8 kk X.A) (hk:k<=kk) (ha:PA X (e :: es) (oM X.K O gr)) (hg:Gl X x:=by rfl)
  (qW:(x == ("__debug__":Str))=false:=by decide) (he:starEach (e :: es) X.env=(false,eval e X.env) :: starEach es X.env:=by rfl) (lp:(backTo pos (starEach es X.env)).any (·.1)=false:=by rfl):
  PE X (.Call (.Name x p) (e :: es) [] pos) (tN X.K O (iD G n gr)):=(zy F hr hk ha hg qW he lp).mono fun σ H Q hh=>hh.e fun U A0 δ d R ed q=>by
 obtain ⟨ds,e1,e2⟩:=bind1 ed
 split at e2
 ·rename_i hn
  obtain ⟨d',e3,e4⟩:=bind1 e2
  split at e4
  ·rename_i hL
   cases e4
   refine ⟨U,A0,δ,ds,R,e1,fun vs H' s h=>?_⟩
   show oz X.K n G (vs ++ []) H' Q E0
   rw [List.append_nil]
   have h':=h.JQ
   refine ⟨by rw [h'.len]; exact hn,[],ds,d,⟨fun _ z=>by simp at z,(R.same s).al.2⟩,by rw [pJ]; exact h',e3,fun r ys H2 s2 h0 h1 h2=>q r ys H2 (s.trans s2) (s.free h0) h1 ?_⟩
   have h3:cv X.K H2 ys d:=h2.same cb
   refine cv.off ⟨fun a ha=>?_,(R.same (s.trans s2)).al.2⟩ h3 hL
   rcases List.mem_cons.mp ha with z | z
   ·subst z; exact ⟨_,h1,trivial⟩
   ·exact (R.same (s.trans s2)).al.1 a z
  ·cases e4
 ·cases e2
section
variable {X:Cx} {O:List Nat} {fr:Bool} {st:Stmt} {ge gx:DS->Option D} {gl:DS->Option (List D)} {i:Nat}
def A5 (i:Nat) (g:DS->Option (List D)):DS->Option Res:=fun δ=>(ae i δ).bind fun x=>(g δ).bind fun zs=>match x with
 | .list ds=>if ds.length + zs.length<=100000 then some (.nx (δ.set i (some (.list (ds ++ zs))))) else none
 | _=>none
set_option tactic.hygienic true in
theorem nL (h:PS X st (zp (Pq X.K "list" zu (uX i) (Ca (tN X.K O gl) Jm)))) (hi:i∈O:=by decide):PS X st (tS X.K O fr (A5 i gl)):=h.mono fun E σ H hh=>hh.e fun H0 U A0 δ r R F ed P=>by
 obtain ⟨x,e1,e2⟩:=bind1 ed
 obtain ⟨zs,e3,e4⟩:=bind1 e2
 rcases R.WN i x hi (join_some e1) with ⟨l,ys,ds,hl,rfl,hU,h1,h2⟩ | ⟨kds,rfl⟩
 rotate_left
 ·(exfalso; simp_all; done)
 simp only at e4
 split at e4
 ·rename_i hz
  cases e4
  refine ⟨.ref l,hl,.inl ⟨rfl,ys,iC.of h1⟩,U,A0,δ,zs,R,e3,fun p ws H' s hp Yc Ox=>?_⟩
  have Ih:=s _ _ h1
  have JU:=h2.same (cq (A:=U ++ A0) s)
  have Yd:=Ox.same (lI (A':=U ++ A0) fun a ha=>List.mem_cons_of_mem _ ha)
  have hlen:=h2.len
  have M1:=Ox.len
  refine ⟨l,p,ys,ws,rfl,rfl,Ih,Yc,small (by omega),?_⟩
  exact P U σ _ ((R.same s).put hi hl hU (JU.app Yd) ⟨_,join_some e1⟩) ((F.grow s).put hU _)
 ·cases e4
end
section
variable {X:Cx} {O:List Nat} {tg a:Expr} {ge:DS->Option D} {p pos:Pos}
def A6 (g:DS->Option D):DS->Option (List D):=fun δ=>(g δ).bind fun | .list l=>some l.reverse | _=>none
end
section
variable {X:Cx} {pins:List (Addr×Obj)} {σ:St} {H:Hp} {s:Shared} {h':Heap}
theorem Inv.fV {t':Nat} {ch:List Addr} (I:Inv X pins σ H s) (k:∀ b o,b∉ch->s.heap.get? b=some o->h'.get? b=some o) (hf:∀ b∈ch,jU X pins H b):Inv X pins σ H { s with heap:=h',toks:=t' }:=by
 have Mc:∀ b u,H b=some u->b∉ch:=fun b u e z=>by rw [(hf b z).1] at e; cases e
 refine I.step (g':=s.gens) (d':=s.drawn) (ch:=ch) (fun b hb=>?_) (fun b o _ _ hc e _=>k b o hc e) (fun b o _ _ hc e _=>⟨o.slots,k b o hc e⟩) (fun _ _ _ _ n=>n)
  (fun b o hc e=>⟨o,k b o hc e⟩) (fun _ _ e=>e) (fun _ _ _ e=>e) (fun b ps e=>⟨#[],by rw [e]; simp⟩) (fun m hm=>?_) (fun b u e=>?_) I.bare
 ·obtain ⟨_,a,_,b',c,d⟩:=hf b hb
  exact ⟨b',a,c,d⟩
 ·obtain ⟨o,es,ep,ho,r⟩:=hm
  exact ⟨o,es,ep,k _ o (fun z=>(hf _ z).2.1 rfl) ho,r⟩
 ·refine (I.cg b u e).qQ (fun c v hc q=>k c v ?_ q) (fun _ q=>q) fun _ _ q=>q
  rcases hc with z | z
  ·rw [z]; exact Mc b u e
  ·exact Mc c _ z
theorem Inv.ti {D:Addr} {ys:List V} {its:List Value} (I:Inv X pins σ H s) (hD:H D=none) (hs:X.fS.heap.objs.size<=D) (hl:D≠X.env.locals) (hc:∀ x c,X.env.cells.lookup x=some c->c≠D)
  (hp:∀ p∈X.pn ++ pins,p.1≠D) (e:IsTup s.heap D its.toArray) (r:bw ys its) (hz:ys.length<=sizeLine):Inv X pins σ (upd H D (.tup ys)) s:=by
 have h:=I.step (H':=upd H D (.tup ys)) (h':=s.heap) (g':=s.gens) (t':=s.toks) (d':=s.drawn) (ch:=[D]) (fun b hb=>by
   have e:b=D:=by simpa using hb
   subst e
   exact ⟨.inr hs,hl,hc,hp⟩)
  (fun b o _ _ _ q _=>q) (fun b o _ _ _ q _=>⟨o.slots,q⟩) (fun b o hb _ q=>by rw [aR (by simpa using hb)]; exact q) (fun b o _ q=>⟨o,q⟩)
  (fun b xs q=>by rw [aR (aV q hD)]; exact q) (fun b o u q=>by rw [aR (aV q hD)]; exact q) (fun b ps q=>⟨#[],by rw [aR (aV q hD),Array.append_empty]; exact q⟩) (fun m hm=>hm) (fun b u q=>?_) I.bare
 ·exact h
 ·by_cases hb:b=D
  ·subst hb
   rw [bR] at q; cases q
   exact ⟨hz,its,r,e⟩
  ·rw [aR hb] at q
   exact (I.cg b u q).qQ (fun _ _ _ z=>z) (fun c z=>by rw [aR (aV z hD)]; exact z) fun c xs z=>z.new hD
end
def WR (K:PySem.W.Frag) (a:Addr):It:=
 ⟨fun i H=>∃ xs x,iC K H a xs /\ xs[i]?=some x,fun i H x H'=>∃ p v,H p=none /\ x=.ref p /\ H'=upd H p (.tup [.int i,v]) /\ ∀ xs,iC K H a xs->xs[i]?=some v,fun i H=>∃ xs,iC K H a xs /\ xs.length<=i⟩
theorem A7 {P:Program} {w:World} {K:PySem.W.Frag} {es:List Expr} {kk} {iW:Pos} (a e it:Addr) (iJ:e≠it):Turn P w K (.Tuple es kk iW) (WR K a) [e,it] e (fun i h=>(∃ old,IsEnum h e it i old) /\ h.IsListIter it a i) where
 mem:=by simp
 obj:=fun i h st b hb=>by
  obtain ⟨⟨old,he⟩,o,ho,c,d⟩:=st
  rcases List.mem_cons.mp hb with z | z
  ·subst z; exact ⟨_,he,fun v z=>by cases z⟩
  ·have z:b=it:=by simpa using z
   subst z; exact ⟨o,ho,fun v z=>by rw [d] at z; cases z⟩
 keep:=fun i h h' st k=>by
  obtain ⟨⟨old,he⟩,cM⟩:=st
  exact ⟨⟨old,k e (by simp) _ he⟩,cM.at fun o eo=>k it (by simp) o eo⟩
 item:=by
  intro X hP hw hK hc i pins s σ H E I hf st hg
  subst hP hw hK
  obtain ⟨xs,x,hq,hx⟩:=hg
  obtain ⟨its,rv,p,hz⟩:=I.list hq
  obtain ⟨u,hu,ru⟩:=rv.get hx
  obtain ⟨⟨old,he⟩,cM⟩:=st
  refine wpAny_pyNext_enum_item he cM p.isList (x:=u) (by simpa using hu) iJ fun h1 AA PQ LK FZ A8=>?_
  refine ⟨_,rfl,wpAny_letOwnedTupleGo_enum AA fun h2 JS kA=>?_⟩
  replace kA:Heap.SameBut e h1 h2:=kA
  have Ij:e < s.heap.objs.size:=Heap.lt_size he
  have I1:Inv X pins σ H { s with heap:=h2,toks:=s.toks + 1 }:=I.fV (t':=s.toks + 1) (ch:=[e,it]) (fun b o hb eo=>by
   simp only [List.mem_cons,List.not_mem_nil,or_false,not_or] at hb
   exact (kA.2 b hb.1).trans (A8 b o hb.1 hb.2 eo)) hf
  have J5:IsTup h2 s.heap.objs.size [Value.int i s.toks,u].toArray:=⟨_,(kA.2 _ (Nat.ne_of_gt Ij)).trans LK,rfl,_,rfl⟩
  have mV:H s.heap.objs.size=none:=I.cg.fresh (Nat.le_refl _)
  have fo:=I.mG (H':=H) (Nat.le_refl _) mV
  have I2:Inv X pins σ (upd H s.heap.objs.size (.tup [.int i,x])) { s with heap:=h2,toks:=s.toks + 1 }:=I1.ti mV (Nat.le_trans I.sz (Nat.le_refl _)) fo.2.1 fo.2.2.2.2.1 fo.2.2.2.2.2 J5 (.cons ⟨_,rfl⟩ (.cons ru .nil)) (by show 2<=sizeLine; decide)
  refine ⟨.ref s.heap.objs.size,_,I2,rfl,⟨_,x,mV,rfl,rfl,fun ys hy=>by rw [I.mF hy hq]; exact hx⟩,⟨⟨u,JS⟩,PQ.extBut kA.extBut (Ne.symm iJ)⟩,fun b hb=>?_⟩
  have fR:b < s.heap.objs.size:=by
   rcases List.mem_cons.mp hb with z | z
   ·subst z; exact Ij
   ·have z:b=it:=by simpa using z
    subst z
    obtain ⟨o,ho,_⟩:=cM
    exact Heap.lt_size ho
  rw [aR (Nat.ne_of_lt fR)]
  exact (hf b hb).1
 done:=by
  intro X hP hw hK hc i pins s σ H E I hf st hg
  subst hP hw hK
  obtain ⟨xs,hq,hx⟩:=hg
  obtain ⟨its,rv,p,hz⟩:=I.list hq
  obtain ⟨⟨old,he⟩,cM⟩:=st
  have hl:=rv.length
  refine wpAny_pyNext_enum_end (I.ok.hd hc) he cM p.isList (by simp; omega) fun h1 eb=>⟨rfl,?_⟩
  exact I.fV (t':=s.toks) (ch:=[e,it]) (fun b o hb eo=>eb b o (fun z=>hb (by simp [z])) eo) hf
 self:=fun _ _ _ _ _ st h=>by
  obtain ⟨⟨old,he⟩,_⟩:=st
  exact wpAny_pyIter_enum he h
theorem jr:bootBuiltins "enumerate"=some (.type "enumerate"):=by decide +kernel
def jb (l:List D):List D:=l.zipIdx.map fun p=>.tuple [.int (p.2:Nat),p.1]
theorem r8 {l:List D} {i:Nat} {d:D} (h:(jb l)[i]?=some d):∃ x,l[i]?=some x /\ d=.tuple [.int (i:Nat),x]:=by
 unfold jb at h
 rw [List.getElem?_map,List.getElem?_zipIdx] at h
 cases e:l[i]? with
 | none=>rw [e] at h; cases h
 | some x=>rw [e] at h; simp at h; exact ⟨x,rfl,h.symm⟩
theorem nM {l:List D}:(jb l).length=l.length:=by unfold jb; simp
section
variable {X:Cx} {O:List Nat} {a:Expr} {ge:DS->Option D} {p pos:Pos} {es:List Expr} {kk} {iW:Pos}
def M3 (K:PySem.W.Frag) (ta:TA):TI:=fun σ H R=>ta σ H fun vs H1=>∃ a xs,vs=[.ref a] /\ iC K H1 a xs /\ R (WR K a) H1
theorem F0 {ta:TA} (hg:Gl X "enumerate") (hm:X.mg "enumerate"=none) (ha:PA X [a] ta) (hs:starEach [a] X.env=[(false,eval a X.env)]:=by rfl):PI X (.Tuple es kk iW) (.Call (.Name "enumerate" p) [a] [] pos) (M3 X.K ta):=by
 intro pins s σ H R I h
 refine Call_ (iB I hg hm jr (PyProof.Rows.callWith_type1 (dZ (ha pos pins s σ H _ I h) fun us s1 ⟨vs,H1,I1,r1,q1⟩=>?_) hs rfl))
 obtain ⟨b,xs,e,hq,q⟩:=q1
 subst e
 obtain ⟨u,rfl,ru⟩:=vals1 r1
 cases ru
 obtain ⟨its,rv,pl,hz⟩:=I1.list hq
 refine call_enumerate_list pl.isList fun h' he hit hsz hk=>?_
 refine wpAny_pyIter_enum he ?_
 refine ⟨s1.heap.objs.size + 1,[s1.heap.objs.size + 1,s1.heap.objs.size],_,_,H1,rfl,I1.kept (t':=s1.toks) hk,A7 b _ s1.heap.objs.size (Nat.succ_ne_self _),⟨⟨_,he⟩,hit⟩,fun b hb=>?_,q⟩
 have hle:s1.heap.objs.size<=b:=by
  simp only [List.mem_cons,List.not_mem_nil,or_false] at hb
  rcases hb with z | z
  ·rw [z]; exact Nat.le_succ _
  ·rw [z]; exact Nat.le_refl _
 exact I1.mG hle (I1.cg.fresh hle)
def js (g:DS->Option D):DS->Option (List D):=fun δ=>(g δ).bind fun | .list l=>some (jb l) | _=>none
theorem tj (hm:X.mg "enumerate"=none) (ha:PE X a (tE X.K O ge)) (hg:Gl X "enumerate":=by rfl) (hs:starEach [a] X.env=[(false,eval a X.env)]:=by rfl) (M4:starEach ([]:List Expr) X.env=[]:=by rfl):PI X (.Tuple es kk iW) (.Call (.Name "enumerate" p) [a] [] pos) (tI X.K O (js ge)):=
 (F0 hg hm (cn ha dz (by rw [hs,M4])) hs).mono fun σ H Q hh=>hh.e fun U A0 δ ds R ed q=>by
  obtain ⟨x,e1,e2⟩:=bind1 ed
  cases x with
  | list l=>
    cases e2
    refine ⟨U,A0,δ,_,R,e1,fun v H' s h=>?_⟩
    cases h with
    | lst hq h=>
      refine ⟨_,_,rfl,(hq.same cb).sq,q _ H' s ?_⟩
      intro A' i H2 s2 al
      have h2:=h.same s2
      have hL:iC X.K H2 _ _:=((hq.same s2).same cb).sq
      refine ⟨fun d hd=>?_,fun hi=>⟨_,hL,by rw [hi,nM,h2.len]; exact Nat.le_refl _⟩⟩
      obtain ⟨y,hy,rfl⟩:=r8 hd
      obtain ⟨v,hv,M5⟩:=h2.get hy
      refine ⟨⟨_,v,hL,hv⟩,fun z H3 hz=>?_⟩
      obtain ⟨p,v',hp,rfl,rfl,M6⟩:=hz
      have:=M6 _ hL
      rw [hv] at this
      cases this
      exact ⟨cD hp _,HD.sY al hp (.cons (.int _) (.cons M5 .nil))⟩
  | _=>cases e2
end
def WalksS (K:PySem.W.Frag) (A:List Addr) (H1:Hp) (J:It) (ds:List D):Prop:=∀ (i:Nat) (H:Hp),aH H1 H->
 (∀ d,ds[i]?=some d->J.go i H /\ ∀ x H2,J.Mm i H x H2->aH H H2 /\ HD K (wo H2 A) x d) /\ (i=ds.length->J.stop i H)
def J6 (K:PySem.W.Frag) (O:List Nat) (g:DS->Option (List D)):TI:=fun σ H R=>∃ U A0 δ ds,Rel K O U A0 σ δ H /\ g δ=some ds /\ ∀ J H1,aH H H1->WalksS K (U ++ A0) H1 J ds->R J H1
theorem J6.e {K:PySem.W.Frag} {O:List Nat} {g:DS->Option (List D)}  {σ:_} {H:_} {R:_} {GG:Prop} (hh:J6 K O g σ H R) (kk:∀ U A0 δ ds,(Rel K O U A0 σ δ H)->(g δ=some ds)->(∀ J H1,aH H H1->WalksS K (U ++ A0) H1 J ds->R J H1)->GG):GG:=by obtain ⟨U,A0,δ,ds,x0,x1,x2⟩:=hh; exact kk U A0 δ ds x0 x1 x2
section
variable {X:Cx} {O:List Nat} {tg e:Expr} {gi:DS->Option (List D)} {ge:DS->Option D} {pos:Pos}
theorem PI.c (h:PI X tg e (tI X.K O gi)):PI X tg e (J6 X.K O gi):=h.mono fun σ H Q hh=>hh.e fun U A0 δ ds R ed q=>⟨U,A0,δ,ds,R,ed,fun J H1 s hw=>q J H1 s fun i H2 s2=>hw (U ++ A0) i H2 (cq s2) ((R.same (s.trans s2)).al)⟩
end
section
variable {X:Cx} {O:List Nat} {fr:Bool} {scope:Scope} {x:Str} {elt iter:Expr} {px pos:Pos} {gi:DS->Option (List D)} {ge:DS->Option D}
end
end L2
namespace LS
open PySem PySem.Spec PyProof.Rows
section
variable {prog:Program} {w:World} {A:Around} {E:Value->Shared->Prop} {s:Shared} {it t:Addr} {i:Nat} {items:Array Value}
theorem xU {x:Value} {Q:Value->Shared->Prop} (hit:s.heap.IsTupleIter it t i) (ht:s.heap.IsTuple t items) (hx:items[i]?=some x)
  (hQ:∀ h',h'.IsTupleIter it t (i + 1)->Heap.SameBut it s.heap h'->Q x { s with heap:=h' }):wpAny (model prog w) A (Builtin.SmallTypes.nextOf (.ref it)) Q E s:=by
 obtain ⟨o,ho,hc,hd⟩:=id hit
 obtain ⟨ol,J7,_,nl,PR⟩:=ht
 unfold Builtin.SmallTypes.nextOf
 refine wpAny_bind (wpAny_callSpecial?_slot (name:=Str.ofString "__next__") hit.typeIs PySem.F.slot_tuple_iterator_next (wpAny_call_entry PySem.F.slot_tuple_iterator_next hit.typeIs PySem.F.entry_tuple_iterator_next ?_ (PySem.F.args_tuple_iterator_next_1 _)))
 show wpAny _ _ (field (.ref it) 0 >>= _) _ _ s
 refine wpAny_bind (wpAny_field ho hd (x:=.ref t) rfl ?_)
 show wpAny _ _ (if (Value.ref t == Value.none)=true then _ else _) _ _ s
 rw [if_neg (show ¬ ((Value.ref t == Value.none)=true) from Bool.false_ne_true)]
 show wpAny _ _ (field (.ref it) 1 >>= _) _ _ s
 refine wpAny_bind (wpAny_field ho hd (x:=.int i 0) rfl ?_)
 show wpAny _ _ (seqItems? (.ref t) >>= _) _ _ s
 refine wpAny_bind (wpAny_seqItems J7 PR ?_)
 simp only [Int.toNat_natCast,hx]
 refine wpAny_bind (wpAny_setField ho hd (by simp) (wpAny_pure ⟨x,rfl,wpAny_pure (hQ _ ?_ (Heap.SameBut.update ..))⟩))
 exact ⟨_,Heap.get?_update_self _ ho (Obj.isFreed_of_fields (Obj.data_mapFields hd _)),(Obj.cls_mapFields ..).trans hc,by rw [Obj.data_mapFields hd]; simp [rawInt]⟩
theorem A9 {Q:Value->Shared->Prop} (hh:A.handled=none) (hit:s.heap.IsTupleIter it t i) (ht:s.heap.IsTuple t items) (hx:items[i]?=none)
  (hE:∀ h' e,Heap.ExtBut it s.heap h'->(∃ o,h'.get? e=some o /\ o.cls=.type "StopIteration")->E (.ref e) { s with heap:=h' }):wpAny (model prog w) A (Builtin.SmallTypes.nextOf (.ref it)) Q E s:=by
 obtain ⟨o,ho,hc,hd⟩:=id hit
 obtain ⟨ol,J7,_,nl,PR⟩:=ht
 unfold Builtin.SmallTypes.nextOf
 refine wpAny_bind (wpAny_callSpecial?_slot (name:=Str.ofString "__next__") hit.typeIs PySem.F.slot_tuple_iterator_next (wpAny_call_entry PySem.F.slot_tuple_iterator_next hit.typeIs PySem.F.entry_tuple_iterator_next ?_ (PySem.F.args_tuple_iterator_next_1 _)))
 show wpAny _ _ (field (.ref it) 0 >>= _) _ _ s
 refine wpAny_bind (wpAny_field ho hd (x:=.ref t) rfl ?_)
 show wpAny _ _ (if (Value.ref t == Value.none)=true then _ else _) _ _ s
 rw [if_neg (show ¬ ((Value.ref t == Value.none)=true) from Bool.false_ne_true)]
 show wpAny _ _ (field (.ref it) 1 >>= _) _ _ s
 refine wpAny_bind (wpAny_field ho hd (x:=.int i 0) rfl ?_)
 show wpAny _ _ (seqItems? (.ref t) >>= _) _ _ s
 refine wpAny_bind (wpAny_seqItems J7 PR ?_)
 simp only [Int.toNat_natCast,hx]
 refine wpAny_bind (wpAny_rule (wpAny_bind (wpAny_setField ho hd (by simp) ?_)))
 show wpAny _ _ (newExc (.type "StopIteration") [] >>= _) _ _ _
 refine wpAny_bind ?_
 simp only [newExc,newTuple]
 refine wpAny_bind (wpAny_newObj_type ?_ (by size_fits))
 refine wpAny_bind (m:=firstArgMember _ _) (wpAny_of_eq (a:=Value.none) (by first | rfl | (simp only [firstArgMember]; rfl)) ?_)
 refine wpAny_newObj_type ?_ (by size_fits)
 simp only [raiseNew]
 refine wpAny_bind (wpAny_handled ?_)
 first | rw [show A.in1.handled=none from hh] | rw [hh]
 refine wpAny_bind (wpAny_pure (wpAny_throw ?_))
 exact hE _ _ (((Heap.SameBut.update ..).extBut.push _).push _) ⟨_,Heap.get?_push_size _ rfl,rfl⟩
theorem iO (hh:A.handled=none) (it l:Addr) (iJ:l≠it) (items:Array Value):
  Draws prog w A it [it,l] items.size (fun i v=>items[i]?=some v) (fun i h=>h.IsTupleIter it l i /\ h.IsTuple l items) where
 live:=fun _ _ st=>let ⟨o,ho,_⟩:=st.1; ⟨o,ho⟩
 frame:=fun _ _ _ st hk=>⟨st.1.at fun o e=>hk it (by simp) o e,st.2.at fun o e=>hk l (by simp) o e⟩
 item:=fun i s Q E hi st hQ=>xU st.1 st.2 (x:=items[i]) (by simp [hi]) fun h' xV jY=>hQ _ h' s.toks (by simp [hi]) ⟨xV,st.2.extBut jY.extBut iJ⟩ jY
 done:=fun s Q E st hE=>A9 hh st.1 st.2 (by simp) hE
end
set_option maxHeartbeats 1000000 in
set_option tactic.hygienic true in
theorem sY (l:Addr) (items:Array Value) (n:Nat) (qO:Option Addr) (sl:Array (Option Value)):
  Meets (Builtin.«enumerate.__new__» ⟨[.type "enumerate",.ref l],[]⟩) (fun _ R s=>s.heap.get? l=some { cls:=.type "tuple",dict:=qO,data:=.seq items n,slots:=sl } /\
   R (.ok (.ret (.ref (s.heap.push { cls:=.type "tuple_iterator",data:=.fields #[.ref l,.int 0 0] }).objs.size)))
     { s with heap:=(s.heap.push { cls:=.type "tuple_iterator",data:=.fields #[.ref l,.int 0 0] }).push { cls:=.type "enumerate",data:=.fields #[.none,.bool false,.ref s.heap.objs.size,rawInt 0,.none,.none] } }):=
 .of_wp fun prog w A R s h=>by
  obtain ⟨hp,g,d,tk,os⟩:=s; obtain ⟨hl,h⟩:=h
  have Bb:=sub_enumerate
  have hL:Heap.IsTuple (Shared.heap ⟨hp,g,d,tk,os⟩) l items:=⟨_,hl,rfl,n,rfl⟩
  wp_walk using AutoSeq1.wpAny_loadPart' hl
  refine wpAny_stack_any fun st=>wpAny_pure ?_
  split
  ·rename_i c _ _ _ _ _
   cases (c == Value.type "enumerate")
   ·wp_walk using AutoSeq1.wpAny_loadPart' hl,wpAny_pyIter_tuple hL
    exact ⟨_,rfl,h⟩
   ·wp_walk using AutoSeq1.wpAny_loadPart' hl,wpAny_pyIter_tuple hL
    exact ⟨_,rfl,h⟩
  ·wp_walk using AutoSeq1.wpAny_loadPart' hl,wpAny_pyIter_tuple hL
   exact ⟨_,rfl,h⟩
section
variable {prog:Program} {w:World} {A:Around} {E:Value->Shared->Prop} {s:Shared}
theorem xW {l:Addr} {items:Array Value} {Q:Value->Shared->Prop} (hL:s.heap.IsTuple l items)
  (h:∀ h',IsEnum h' (s.heap.objs.size + 1) s.heap.objs.size 0 .none->h'.IsTupleIter s.heap.objs.size l 0->h'.objs.size=s.heap.objs.size + 2->(∀ b o,s.heap.get? b=some o->h'.get? b=some o)->Q (.ref (s.heap.objs.size + 1)) { s with heap:=h' }):
  wpAny (model prog w) A (call (.type "enumerate") [.ref l]) Q E s:=by
 obtain ⟨⟨c,qO,dt,sl⟩,hl,hc,n,hd⟩:=hL
 simp only at hc hd
 subst hc hd
 refine callType_new PySem.F.called_enumerate (by decide) (PySem.F.typeCall_enumerate_1 _) (PySem.F.newCall_enumerate_1 _) (fun obj=>PySem.F.args_object_init_2 obj _) PySem.F.entry_enumerate_new (sY l items n qO sl) ⟨hl,?_⟩
 have hz:(s.heap.push { cls:=.type "tuple_iterator",data:=.fields #[.ref l,.int 0 0] }).objs.size=s.heap.objs.size + 1:=Heap.size_push ..
 show _ /\ _
 rw [hz]
 have he:IsEnum ((s.heap.push { cls:=.type "tuple_iterator",data:=.fields #[.ref l,.int 0 0] }).push { cls:=.type "enumerate",data:=.fields #[.none,.bool false,.ref s.heap.objs.size,rawInt 0,.none,.none] }) (s.heap.objs.size + 1) s.heap.objs.size 0 .none:=by
  have q:=Heap.get?_push_size (s.heap.push { cls:=.type "tuple_iterator",data:=.fields #[.ref l,.int 0 0] }) (o:={ cls:=.type "enumerate",data:=.fields #[.none,.bool false,.ref s.heap.objs.size,rawInt 0,.none,.none] }) rfl
  rw [hz] at q; exact q
 exact ⟨⟨_,he,rfl⟩,h _ he ⟨_,Heap.get?_push_of_some _ (Heap.get?_push_size _ rfl),rfl,rfl⟩ (by rw [Heap.size_push,hz]) fun b o x=>Heap.get?_push_of_some _ (Heap.get?_push_of_some _ x)⟩
end
end LS
namespace LS
open PySem
def r9 (l:List Nat):Prop:=l.Pairwise (· < ·)
theorem kE {xs:Array Nat} (h:r9 xs.toList) {a b:Nat} (Ik:a < b) (hb:b < xs.size) (d e:Nat):xs.getD a d < xs.getD b e:=by
 have ha:a < xs.size:=by omega
 have:=List.pairwise_iff_getElem.mp h a b (by simpa using ha) (by simpa using hb) Ik
 simpa [Array.getD,ha,hb] using this
theorem CP {xs:Array Nat} (hs:r9 xs.toList) (j:Nat) (fuel:Nat):∀ (lo hi:Nat),hi - lo<=fuel->lo<=hi->hi<=xs.size->(∀ k,k < lo->xs.getD k 0 < j)->(∀ k,hi<=k->k < xs.size->j<=xs.getD k 0)->
  SetTable.below.go xs j fuel lo hi<=xs.size /\ (∀ k,k < SetTable.below.go xs j fuel lo hi->xs.getD k 0 < j) /\ ∀ k,SetTable.below.go xs j fuel lo hi<=k->k < xs.size->j<=xs.getD k 0:=by
 induction fuel with
 | zero=>
   intro lo hi h1 h2 h3 h4 h5
   have e:lo=hi:=Nat.le_antisymm h2 (Nat.le_of_sub_eq_zero (Nat.le_zero.mp h1))
   subst e
   exact ⟨h3,h4,h5⟩
 | succ fuel ih=>
   intro lo hi h1 h2 h3 h4 h5
   rw [SetTable.below.go]
   by_cases hl:lo < hi
   ·rw [if_pos hl]
    have a:lo<=(lo + hi) / 2 /\ (lo + hi) / 2 < hi:=by omega
    dsimp only
    generalize (lo + hi) / 2=m at a
    have hm:m < xs.size:=Nat.lt_of_lt_of_le a.2 h3
    have hg:xs.getD m j=xs.getD m 0:=by simp [Array.getD,hm]
    rw [hg]
    by_cases hc:xs.getD m 0 < j
    ·rw [if_pos hc]
     refine ih _ hi (by omega) a.2 h3 (fun k hk=>?_) h5
     rcases Nat.lt_or_eq_of_le (Nat.le_of_lt_succ hk) with q | q
     ·exact Nat.lt_trans (kE hs q hm 0 0) hc
     ·rw [q]; exact hc
    ·rw [if_neg hc]
     have hc:=Nat.le_of_not_lt hc
     refine ih lo _ (by omega) a.1 (Nat.le_of_lt hm) h4 (fun k hk LL=>?_)
     rcases Nat.lt_or_eq_of_le hk with q | q
     ·exact Nat.le_trans hc (Nat.le_of_lt (kE hs q LL 0 0))
     ·rw [<- q]; exact hc
   ·rw [if_neg hl]
    have e:lo=hi:=Nat.le_antisymm h2 (Nat.le_of_not_lt hl)
    subst e
    exact ⟨h3,h4,h5⟩
theorem below_at {xs:Array Nat} (hs:r9 xs.toList) (j:Nat):SetTable.below xs j<=xs.size /\ (∀ k,k < SetTable.below xs j->xs.getD k 0 < j) /\ ∀ k,SetTable.below xs j<=k->k < xs.size->j<=xs.getD k 0:=
 CP hs j xs.size 0 xs.size (by omega) (Nat.zero_le _) (Nat.le_refl _) (fun k hk=>by omega) fun k h1 h2=>by omega
theorem pT {xs:Array Nat} (hs:r9 xs.toList) {i j:Nat} (hi:i<=xs.size) (h1:∀ k,k < i->xs.getD k 0 < j) (h2:∀ k,i<=k->k < xs.size->j<=xs.getD k 0):SetTable.below xs j=i:=by
 obtain ⟨a,b,c⟩:=below_at hs j
 rcases Nat.lt_trichotomy (SetTable.below xs j) i with h | h | h
 ·have:=h1 _ h
  have:=c _ (Nat.le_refl _) (by omega)
  omega
 ·exact h
 ·have:=b i h
  have:=h2 i (Nat.le_refl _) (by omega)
  omega
theorem CQ {xs:Array Nat} (hs:r9 xs.toList) {j:Nat} (h:xs[SetTable.below xs j]?≠some j):j∉xs.toList:=by
 intro hm
 obtain ⟨k,hk,e⟩:=List.getElem_of_mem hm
 have LL:k < xs.size:=by simpa using hk
 have ek:xs.getD k 0=j:=by simpa [Array.getD,LL] using e
 have:SetTable.below xs j=k:=pT hs (Nat.le_of_lt LL) (fun i hi=>by rw [<- ek]; exact kE hs hi LL 0 0) (fun i h1 h2=>by
  by_cases Ib:k=i
  ·subst Ib; omega
  ·have:=kE hs (show k < i by omega) h2 0 0
   omega)
 rw [this] at h
 refine h ?_
 rw [Array.getElem?_eq_getElem LL]
 simpa using e
theorem F4 {t:SetTable} (hs:r9 t.place.toList) {j:Nat} (h:t.place[SetTable.below t.place j]?≠some j):r9 (t.put j).1.place.toList:=by
 have hn:=CQ hs h
 obtain ⟨a,b,c⟩:=below_at hs j
 show r9 (SetTable.insertAt t.place (SetTable.below t.place j) j).toList
 rw [SetTable.toList_insertAt]
 have jY:(t.place.toList.take (SetTable.below t.place j) ++ t.place.toList.drop (SetTable.below t.place j)).Pairwise (· < ·):=by rw [List.take_append_drop]; exact hs
 rw [List.pairwise_append] at jY
 refine List.pairwise_append.mpr ⟨jY.1,List.pairwise_cons.mpr ⟨fun x hx=>?_,jY.2.1⟩,fun x hx y hy=>?_⟩
 ·obtain ⟨k,hk,e⟩:=List.getElem_of_mem hx
  rw [List.getElem_drop] at e
  have CS:SetTable.below t.place j + k < t.place.size:=by
   have:=List.length_drop (i:=SetTable.below t.place j) (l:=t.place.toList)
   have OA:=hk
   rw [this] at OA
   simp at OA
   omega
  have:=c (SetTable.below t.place j + k) (by omega) CS
  have e2:t.place.getD (SetTable.below t.place j + k) 0=x:=by simpa [Array.getD,CS] using e
  have iJ:x≠j:=fun z=>hn (by rw [<- z]; exact List.mem_of_mem_drop hx)
  omega
 ·obtain ⟨k,hk,e⟩:=List.getElem_of_mem hx
  have CS:k < SetTable.below t.place j:=by
   have:=List.length_take (i:=SetTable.below t.place j) (l:=t.place.toList)
   omega
  have OA:k < t.place.size:=by omega
  rw [List.getElem_take] at e
  have e2:t.place.getD k 0=x:=by simpa [Array.getD,OA] using e
  have WS:=b k CS
  rw [e2] at WS
  rcases List.mem_cons.mp hy with z | z
  ·rw [z]; exact WS
  ·exact jY.2.2 x hx y z
set_option tactic.hygienic true in
theorem lL {t:SetTable} {f:Nat->Int} {h:Int}:∀ {fuel:Nat} {p:SetTable.Probe} {j:Nat} {dm:Option Nat},(∀ d,p.dummy=some d->t.place[SetTable.below t.place d]?≠some d)->
  SetTable.probe.go t f h fuel p=some (.empty j dm)->t.place[SetTable.below t.place (dm.getD j)]?≠some (dm.getD j)
 | 0,p,j,dm,_,e=>by cases e
 | fuel + 1,p,j,dm,hd,e=>by
   have WT:∀ q:SetTable.Probe,(t.advance q).dummy=q.dummy:=fun q=>by unfold SetTable.advance; split <;> rfl
   rw [SetTable.probe.go] at e
   have nl:∀ i,t.slot i=.empty \/ t.slot i=.dummy->t.place[SetTable.below t.place i]?≠some i:=by
    intro i hi z
    unfold SetTable.slot at hi
    dsimp only at hi
    rw [z] at hi
    simp at hi
   split at e
   ·rename_i hs
    cases e
    cases hp:p.dummy with
    | none=>exact nl _ (.inl hs)
    | some d=>exact hd d hp
   ·rename_i hs
    refine lL (fun d Fe=>?_) e
    rw [WT] at Fe
    cases Fe
    exact nl _ (.inr hs)
   ·split at e
    ·cases e
    ·exact lL (fun d Fe=>hd d (by rw [WT] at Fe; exact Fe)) e
theorem kF (n:Nat):r9 (Array.range n).toList:=by rw [Array.toList_range]; exact List.pairwise_lt_range
theorem rf {t:SetTable} {n:Nat} (h:r9 t.place.toList):r9 (t.orStandIn n).place.toList /\ (t.orStandIn n).led=t.led:=by
 unfold SetTable.orStandIn
 split
 ·exact ⟨h,rfl⟩
 ·exact ⟨kF n,rfl⟩
set_option tactic.hygienic true in
theorem xX {t:SetTable} {es:Array (Int×Value)} {h:Int} {x:Value} (hs:r9 t.place.toList):r9 (layNew t es h x).2.1.place.toList /\ (layNew t es h x).2.1.led=t.led:=by
 unfold layNew
 split
 ·rename_i slot wd e
  unfold SetTable.freeSlot at e
  split at e
  ·rename_i j dm ep
   cases e
   have:=lL (t:=t) (fun d z=>by cases z) ep
   obtain ⟨a,b⟩:=rf (n:=(SetTable.insertAt es (t.put (dm.getD j)).2 (h,x)).size) (F4 hs this)
   exact ⟨a,b⟩
  ·cases e
 ·exact ⟨kF _,rfl⟩
set_option tactic.hygienic true in
theorem tm {t:SetTable} {es:Array (Int×Value)} {n:Nat}:r9 (relayAll t es n).2.1.place.toList /\ (relayAll t es n).2.1.led=t.led:=by
 unfold relayAll
 split
 ·rename_i t' order e
  dsimp only
  split
  ·unfold SetTable.relaid SetTable.laid at e
   obtain ⟨owner,_,e2⟩:=Option.bind_eq_some_iff.mp e
   cases e2
   refine ⟨?_,rfl⟩
   show r9 (List.map _ _)
   refine List.pairwise_map.mpr (List.pairwise_filterMap.mpr ?_)
   refine List.pairwise_lt_range.imp fun {a b} Ik x hx y hy=>?_
   cases ea:owner.getD a none with
   | none=>rw [ea] at hx; cases hx
   | some u=>
     cases eb:owner.getD b none with
     | none=>rw [eb] at hy; cases hy
     | some v=>
       rw [ea] at hx; rw [eb] at hy
       cases hx; cases hy
       exact Ik
  ·exact ⟨kF _,rfl⟩
 ·exact ⟨kF _,rfl⟩
end LS
namespace LS
open PySem PyProof.Rows
def iv:Value->Int
 | .int n _=>n
 | _=>0
theorem dE:∀ {vs:List Value} {ns:List Int},IntsAre vs ns↔(∀ v∈vs,∃ n t,v=.int n t) /\ ns=vs.map iv
 | [],ns=>⟨fun h=>by cases h; exact ⟨fun v hv=>by simp at hv,rfl⟩,fun ⟨_,h⟩=>by subst h; exact .nil⟩
 | v :: vs,ns=>⟨fun h=>by
     cases h with
     | cons n t h=>
       obtain ⟨h1,h2⟩:=dE.mp h
       refine ⟨fun u hu=>?_,by rw [h2]; rfl⟩
       rcases List.mem_cons.mp hu with z | z
       ·exact ⟨n,t,z⟩
       ·exact h1 u z,fun ⟨h1,h2⟩=>by
     obtain ⟨n,t,rfl⟩:=h1 v List.mem_cons_self
     subst h2
     exact .cons n t (dE.mpr ⟨fun u hu=>h1 u (List.mem_cons_of_mem _ hu),rfl⟩)⟩
theorem nN {vs PU:List Value} {ns:List Int} (h:IntsAre vs ns) (p:PU.Perm vs):∃ my,IntsAre PU my /\ my.Perm ns:=by
 obtain ⟨h1,h2⟩:=dE.mp h
 exact ⟨PU.map iv,dE.mpr ⟨fun v hv=>h1 v (p.mem_iff.mp hv),rfl⟩,by rw [h2]; exact p.map iv⟩
def jc (prog:Program) (w:World) (h:Heap) (a:Addr) (led:Bool) (ns:List Int):Prop:=∃ o es ep t,h.get? a=some o /\ o.ExactSet /\ o.data=.set es ep t /\ ElemsOf (intKind prog w) es.toList /\
 IntsAre (es.toList.map (·.2)) ns /\ ns.Nodup /\ es.size < scanBound /\ t.fits es.size=true /\ t.led=led /\ r9 t.place.toList
section
variable {prog:Program} {w:World} {A:Around} {E:Value->Shared->Prop} {s:Shared} {a:Addr} {led:Bool} {ns:List Int}
theorem jc.keeps {h h':Heap} (x:jc prog w h a led ns) (k:∀ o,h.get? a=some o->h'.get? a=some o):jc prog w h' a led ns:=by
 obtain ⟨o,es,ep,t,ho,r⟩:=x
 exact ⟨o,es,ep,t,k o ho,r⟩
theorem vE {h:Heap} {o:Obj} {es:Array (Int×Value)} {ep:Nat} {t:SetTable} (ho:h.get? a=some o) (hex:o.ExactSet) (hd:o.data=.set es ep t) {uV:Array (Int×Value)} {t':SetTable} {my:List Int}
  (h1:ElemsOf (intKind prog w) uV.toList) (h2:IntsAre (uV.toList.map (·.2)) my) (h3:my.Nodup) (h4:uV.size < scanBound) (h5:t'.fits uV.size=true) (h6:t'.led=led) (h7:r9 t'.place.toList):
  (h.update a (Obj.putSet uV t')).get? a=some { o with data:=.set uV (ep + 1) t' } /\ jc prog w (h.update a (Obj.putSet uV t')) a led my:=by
 have hg:(h.update a (Obj.putSet uV t')).get? a=some { o with data:=.set uV (ep + 1) t' }:=by
  have q:=Heap.get?_update_self (Obj.putSet uV t') ho (by rw [putSet_of uV t' hd]; rfl)
  rwa [putSet_of uV t' hd] at q
 exact ⟨hg,_,uV,ep + 1,t',hg,hex,rfl,h1,h2,h3,h4,h5,h6,h7⟩
theorem sd {g:Bool->Sem Unit} (hg:∀ (b:Bool) (bA:Shared) (Q':Unit->Shared->Prop),Q' () bA->wpAny (model prog w) A (g b) Q' E bA) {o:Obj} {es:Array (Int×Value)} {ep:Nat} {t:SetTable}
  (ho:s.heap.get? a=some o) (hex:o.ExactSet) (hd:o.data=.set es ep t) {oO:Array (Int×Value)} {t2:SetTable} {J8:List Int} (h1:ElemsOf (intKind prog w) oO.toList) (h2:IntsAre (oO.toList.map (·.2)) J8) (h3:J8.Nodup) (h4:oO.size < scanBound)
  (h5:t2.fits oO.size=true) (h6:t2.led=led) (h7:r9 t2.place.toList) {wd:Bool} {R:Option Bool->Shared->Prop}
  (h:∀ h' my,Heap.SameBut a s.heap h'->jc prog w h' a led my->my.Perm J8->R (some true) { s with heap:=h' }):
  wpAny (model prog w) A (do
    storeSet a oO t2
    if (!wd && t2.tooFull)=true then do
        g (relayAll t2 oO (SetTable.grown oO.size)).2.2
        storeSet a (relayAll t2 oO (SetTable.grown oO.size)).1 (relayAll t2 oO (SetTable.grown oO.size)).2.1
        pure (some true)
     else pure (some true)) R E s:=by
 refine wpAny_bind (wpAny_storeSet_of ho hd ?_ (fits_of_scanBound h4))
 obtain ⟨gQ,S1⟩:=vE (led:=led) ho hex hd h1 h2 h3 h4 h5 h6 h7
 have b1:=Heap.SameBut.update s.heap a (Obj.putSet oO t2)
 split
 ·have hp:=relayAll_perm t2 oO (SetTable.grown oO.size)
  have hf:=relayAll_fits t2 oO (SetTable.grown oO.size)
  obtain ⟨hr,hl⟩:=tm (t:=t2) (es:=oO) (n:=SetTable.grown oO.size)
  generalize relayAll t2 oO (SetTable.grown oO.size)=Z at hp hf hr hl ⊢
  obtain ⟨WU,t3,PV⟩:=Z
  dsimp only at hp hf hr hl ⊢
  obtain ⟨Ye,i2,p2⟩:=nN h2 (hp.map (·.2))
  have hz:WU.size=oO.size:=by rw [<- Array.length_toList,hp.length_eq,Array.length_toList]
  have b2:WU.size < scanBound:=by rw [hz]; exact h4
  refine wpAny_bind (hg _ _ _ (wpAny_bind (wpAny_storeSet_of gQ rfl ?_ (fits_of_scanBound b2))))
  obtain ⟨_,S2⟩:=vE (led:=led) gQ hex rfl (h1.perm hp) i2 (p2.nodup_iff.mpr h3) b2 hf (hl.trans h6) hr
  exact wpAny_pure (h _ Ye (b1.trans (Heap.SameBut.update _ a _)) S2 p2)
 ·exact wpAny_pure (h _ J8 b1 S1 (.refl _))
theorem vG {es:List (Int×Value)} {i:Int} (h:IntsAre (es.map (·.2)) ns):i∈ns↔∃ e∈es,Value.isInt i e.2=true:=by
 obtain ⟨h1,h2⟩:=dE.mp h
 subst h2
 constructor
 ·intro hm
  obtain ⟨v,hv,e⟩:=List.mem_map.mp hm
  obtain ⟨x,hx,rfl⟩:=List.mem_map.mp hv
  obtain ⟨n,t,q⟩:=h1 _ hv
  rw [q] at e
  cases e
  exact ⟨x,hx,by rw [q]; simp [Value.isInt,iv]⟩
 ·rintro ⟨e,he,q⟩
  obtain ⟨t,z⟩:=Value.isInt_shape q
  exact List.mem_map.mpr ⟨e.2,List.mem_map.mpr ⟨e,he,rfl⟩,by rw [z]; rfl⟩
theorem CT {i:Int} {tk:Tok} {Q:Bool->Shared->Prop} (hS:jc prog w s.heap a led ns) (room:ns.length + 1 < scanBound)
  (h:∀ h' my b,Heap.SameBut a s.heap h'->jc prog w h' a led my->(∀ k,k∈my↔k∈ns \/ k=i)->my.length<=ns.length + 1->Q b { s with heap:=h' }):
  wpAny (model prog w) A (setAddHashed a (.int i tk) (hashInt i)) Q E s:=by
 obtain ⟨o,es,ep,t,ho,hex,hd,h1,h2,h3,h4,h5,h6,h7⟩:=hS
 have hlen:ns.length=es.size:=by
  obtain ⟨_,e⟩:=dE.mp h2
  rw [e]; simp
 have hk:(intKind prog w).is i (.int i tk)=true:=intKind_is prog w i tk
 have PX:(Value.int i tk).scannable=true:=rfl
 unfold setAddHashed setAddHashedIn
 refine wpAny_holding (wpAny_bind (wpAny_setState_of ho hd h5 ?_))
 dsimp only
 rw [byScan_of PX h4 h1]
 simp only [↓reduceIte]
 unfold setAddByScan
 refine wpAny_bind (wpAny_bind (wpAny_rule (wpAny_bind (wpAny_setScan_of (knd:=intKind prog w) (k:=i) hk ho hd h5 h1 ?_))))
 cases hf:List.findIdx? (fun e=>(intKind prog w).is i e.2) es.toList with
 | some j=>
   dsimp only
   obtain ⟨hj,Yg,_⟩:=List.findIdx?_eq_some_iff_getElem.mp hf
   have hm:i∈ns:=(vG h2).mpr ⟨_,List.getElem_mem hj,Yg⟩
   refine wpAny_pure (wpAny_pure ?_)
   have q:=h s.heap ns false (Heap.SameBut.refl a s.heap) ⟨o,es,ep,t,ho,hex,hd,h1,h2,h3,h4,h5,h6,h7⟩ (fun k=>⟨.inl,fun z=>z.elim id fun e=>e ▸ hm⟩) (Nat.le_succ _)
   exact q
 | none=>
   dsimp only
   have hn:i∉ns:=fun hm=>by
    obtain ⟨e,he,q⟩:=(vG h2).mp hm
    have z:=List.findIdx?_eq_none_iff.mp hf e he
    rw [show (intKind prog w).is i e.2=true from q] at z
    cases z
   have gw:∀ (b:Bool) {bA:Shared} {Q':Unit->Shared->Prop},Q' () bA->wpAny (model prog w) A (match b with | true=>rule "set.scan.the-table-gave-way" | false=>pure ()) Q' E bA:=
    fun b bA Q' hq=>by cases b <;> first | exact wpAny_pure hq | exact wpAny_rule hq
   have hp:=layNew_perm t es (hashInt i) (.int i tk)
   have M7:=layNew_fits t es (hashInt i) (.int i tk)
   obtain ⟨hr,hl⟩:=xX (t:=t) (es:=es) (h:=hashInt i) (x:=.int i tk) h7
   generalize layNew t es (hashInt i) (.int i tk)=Z at hp M7 hr hl ⊢
   obtain ⟨oO,t1,wd,PV⟩:=Z
   dsimp only at hp M7 hr hl ⊢
   rw [Array.toList_push] at hp
   have e1:ElemsOf (intKind prog w) oO.toList:=(h1.push hk PX).perm hp
   have i0:IntsAre ((es.toList ++ [(hashInt i,Value.int i tk)]).map (·.2)) (ns ++ [i]):=by
    obtain ⟨x1,x2⟩:=dE.mp h2
    refine dE.mpr ⟨fun v hv=>?_,by rw [x2]; simp [iv]⟩
    rw [List.map_append] at hv
    rcases List.mem_append.mp hv with z | z
    ·exact x1 v z
    ·simp at z; exact ⟨i,tk,z⟩
   obtain ⟨J8,i1,p1⟩:=nN i0 (hp.map (·.2))
   have nd:J8.Nodup:=p1.nodup_iff.mpr (by
    rw [List.nodup_append]
    exact ⟨h3,by simp,fun x hx y hy=>by simp at hy; rw [hy]; exact fun z=>hn (z ▸ hx)⟩)
   have hz:oO.size=es.size + 1:=by rw [<- Array.length_toList,hp.length_eq,List.length_append,Array.length_toList]; rfl
   have b1:oO.size < scanBound:=by omega
   have fin:∀ h' my,Heap.SameBut a s.heap h'->jc prog w h' a led my->my.Perm J8->Q true { s with heap:=h' }:=fun h' my sb S p=>by
    refine h h' my true sb S (fun k=>?_) ?_
    ·rw [p.mem_iff,p1.mem_iff]; simp
    ·rw [p.length_eq,p1.length_eq]; simp
   refine wpAny_bind (gw _ ?_)
   split
   ·rw [hashByValue_scannable 8 PX]
    refine wpAny_bind (wpAny_pure ?_)
    refine sd (led:=led) ?_ ho hex hd e1 i1 nd b1 ?_ ?_ ?_ fun h' my sb S p=>?_
    ·intro b bA Q' hq; cases b <;> first | exact wpAny_pure hq | exact wpAny_rule hq
    ·split
     ·exact M7
     ·exact SetTable.fits_plain_off M7
    ·split <;> exact hl.trans h6
    ·split <;> exact hr
    ·dsimp only; exact wpAny_pure (fin h' my sb S p)
   ·refine wpAny_bind (wpAny_pure ?_)
    simp only [↓reduceIte]
    refine sd (led:=led) ?_ ho hex hd e1 i1 nd b1 M7 (hl.trans h6) hr fun h' my sb S p=>?_
    ·intro b bA Q' hq; cases b <;> first | exact wpAny_pure hq | exact wpAny_rule hq
    ·dsimp only; exact wpAny_pure (fin h' my sb S p)
end
end LS
namespace LS
open PySem PySem.Spec PyProof.Rows
section
variable {prog:Program} {w:World} {A:Around} {E:Value->Shared->Prop} {s:Shared}
abbrev kb (w:World):Bool:= !w.params.followText "set-order"
abbrev gL (w:World):Obj:={ cls:=.type "set",dict:=none,data:=.set #[] 0 (.fresh 0 0 (kb w)) }
theorem Bc {h:Heap} {a:Addr} (e:h.get? a=some (gL w)):jc prog w h a (kb w) []:=
 ⟨_,#[],0,_,e,⟨rfl,rfl,rfl⟩,rfl,fun x hx=>by simp at hx,.nil,.nil,by decide,rfl,rfl,List.Pairwise.nil⟩
theorem F5 (a:Value) {Q₁:Value->Shared->Prop} (h:Q₁ (.ref s.heap.objs.size) { s with heap:=s.heap.push (gL w) }):
  codeAny (model prog w) A (.call (.builtin "set.__new__") ⟨[.type "set",a],[]⟩) (wants Q₁ E) s:=by
 refine codeAny_of_tree ?_
 show wpAny _ A.in1 (checkBuiltinCall "set.__new__" ⟨[.type "set",a],[]⟩ >>= fun _=>again (.builtin "set.__new__" ⟨[.type "set",a],[]⟩)) _ _ s
 refine wpAny_bind (wpAny_of_eq (PySem.F.newCall_set_1 a) (wpAny_pure ⟨plainId_quiet PySem.F.plain_set_new _,codeAny_builtin PySem.F.entry_set_new ?_⟩))
 rw [Around.under_plainId PySem.F.plain_set_new _]
 unfold Builtin.«set.__new__» Builtin.Frozenset.newClass
 have Bb:=sub_set_self
 obtain ⟨hp,g,d,tk,os⟩:=s
 dsimp only
 wp_walk
 refine wpAny_askSetting (wpAny_pure ?_)
 dsimp only
 simp only [newObj]
 exact wpAny_bind (wpAny_alloc (wpAny_pure (wpAny_pure h)))
end
section
variable {prog:Program} {w:World} {A:Around} {R:Result->Shared->Prop} {I:Addr} {fp wr:List Addr} {G:Array GenState->Array GenState->Prop} {n:Nat} {P:Nat->Value->Prop} {St:Nat->Shared->Prop} {led:Bool}
theorem CU (W:WalksS prog w A.in1 I fp wr G n P St) (S:Addr) (J9:S∉fp) (val:Nat->Int) (F6:∀ i v,P i v->∃ t,v=.int (val i) t) (hb:n + 1 < scanBound):
  ∀ (k i:Nat) (s:Shared) (ns:List Int),n - i=k->i<=n->St i s->jc prog w s.heap S led ns->ns.length<=i->(∀ x,x∈ns↔∃ j,j < i /\ val j=x)->
    (∀ s' my,Moved (S :: wr) G s s'->jc prog w s'.heap S led my->my.length<=n->(∀ x,x∈my↔∃ j,j < n /\ val j=x)->R (.ok (.ret .none)) s')->
    codeAny (model prog w) A (.builtin "set.update.loop" ⟨[.ref S,.ref I],[]⟩) R s:=by
 have WV:S∉wr:=fun h=>J9 (W.sub _ h)
 have Bb:∀ b∈wr,b∈S :: wr:=fun b hb=>List.mem_cons_of_mem _ hb
 intro k
 induction k with
 | zero=>
   intro i s ns hk hi st hS hl hm hR
   have Yh:i=n:=by omega
   subst Yh
   refine codeAny_builtin PyProof.Rows.F.entry_set_update_loop ?_
   rw [Around.under_plainId PyProof.Rows.F.plain_set_update_loop _]
   show wpAny _ A.in1 (pyNext (.ref I) >>= _) _ _ s
   refine wpAny_bind (W.done s _ _ st fun s' mv=>?_)
   show wpAny _ A.in1 (ret Value.none) _ _ s'
   exact wpAny_pure (hR s' ns (mv.mono Bb) (hS.keeps fun o e=>mv.heap S o WV e) hl hm)
 | succ k ih=>
   intro i s ns hk hi st hS hl hm hR
   have fR:i < n:=by omega
   refine codeAny_builtin PyProof.Rows.F.entry_set_update_loop ?_
   rw [Around.under_plainId PyProof.Rows.F.plain_set_update_loop _]
   show wpAny _ A.in1 (pyNext (.ref I) >>= _) _ _ s
   refine wpAny_bind (W.item i s _ _ fR st fun v s' hP cu mv=>?_)
   obtain ⟨t,rfl⟩:=F6 i v hP
   have Bd:jc prog w s'.heap S led ns:=hS.keeps fun o e=>mv.heap S o WV e
   show wpAny _ A.in1 (holding [Value.int (val i) t] (setAdd S (.int (val i) t)) >>= _) _ _ s'
   refine wpAny_bind (wpAny_holding ?_)
   unfold setAdd
   refine wpAny_holding (wpAny_bind ((intKind prog w).pyHash (k:=val i) (intKind_is _ _ _ _) ?_))
   refine CT (s:={ s' with toks:=s'.toks + 1 }) Bd (by omega) fun h' my b sb S2 BP JB=>?_
   refine wpAny_pure ⟨plainId_quiet PyProof.Rows.F.plain_set_update_loop _,ih (i + 1) _ my (by omega) fR (W.frame _ s' _ _ cu (Nat.le_succ _) fun b hb o e=>?_) S2 (by omega) (fun x=>?_) fun Fq PY PZ S3 l3 m3=>?_⟩
   ·rw [sb.2 b (fun z:b=S=>J9 (by rw [<- z]; exact hb))]; exact e
   ·rw [BP,hm]
    constructor
    ·rintro (⟨j,hj,e⟩ | e)
     ·exact ⟨j,by omega,e⟩
     ·exact ⟨i,by omega,e.symm⟩
    ·rintro ⟨j,hj,e⟩
     by_cases Yi:j=i
     ·subst Yi; exact .inr e.symm
     ·exact .inl ⟨j,by omega,e⟩
   ·refine hR Fq PY (Moved.trans W.gtrans ((mv.mono Bb).then_heap (Nat.le_succ _) fun b o hb e=>?_) PZ) S3 l3 m3
    rw [sb.2 b (fun z:b=S=>hb (by rw [z]; exact List.mem_cons_self))]; exact e
end
section
variable {prog:Program} {w:World} {A:Around} {E:Value->Shared->Prop} {s:Shared}
structure xY (prog:Program) (w:World) (h:Heap) (r:Addr) (items:Array Value) (T:String) (oI:Obj) (St:Addr->Nat->Heap->Prop):Prop where
 ty:∃ o,h.get? r=some o /\ o.cls=.type T
 Ka:isSubtype (.type T) (.type "set")=pure false
 Kb:isSubtype (.type T) (.type "frozenset")=pure false
 nd:(Value.type T == Value.type "dict")=false
 iter:∀ (A':Around) (s':Shared) (Q:Value->Shared->Prop) (E:Value->Shared->Prop),(∀ o,h.get? r=some o->s'.heap.get? r=some o)->Q (.ref s'.heap.objs.size) { s' with heap:=s'.heap.push oI }->wpAny (model prog w) A' (pyIter (.ref r)) Q E s'
 walk:∀ (A':Around) (I:Addr),A'.handled=none->r≠I->Walks prog w A' I [I,r] [I] items.size (fun i v=>items[i]?=some v) (St I)
 st:∀ h':Heap,(∀ o,h.get? r=some o->h'.get? r=some o)->St h'.objs.size 0 (h'.push oI)
theorem src_list {h:Heap} {l:Addr} {items:Array Value} (hl:h.IsList l items):xY prog w h l items "list" { cls:=.type "list_iterator",data:=.fields #[.ref l,.int 0 0] } (fun I i h=>h.IsListIter I l i /\ h.IsList l items) where
 ty:=let ⟨o,e,c,_⟩:=hl; ⟨o,e,c⟩
 Ka:=PySem.F.sub_list_set
 Kb:=PySem.F.sub_list_frozenset
 nd:=by decide
 iter:=fun A' s' Q E k q=>wpAny_pyIter_list (hl.at k) q
 walk:=fun A' I hh iJ=>Walks.list hh I l iJ items
 st:=fun h' k=>⟨⟨_,Heap.get?_push_size _ rfl,rfl,rfl⟩,(hl.at k).push _⟩
theorem src_tuple {h:Heap} {l:Addr} {items:Array Value} (hl:h.IsTuple l items):xY prog w h l items "tuple" { cls:=.type "tuple_iterator",data:=.fields #[.ref l,.int 0 0] } (fun I i h=>h.IsTupleIter I l i /\ h.IsTuple l items) where
 ty:=let ⟨o,e,c,_⟩:=hl; ⟨o,e,c⟩
 Ka:=by rw [isSubtype_type]; kernel_rfl
 Kb:=by rw [isSubtype_type]; kernel_rfl
 nd:=by decide
 iter:=fun A' s' Q E k q=>wpAny_pyIter_tuple (hl.at k) q
 walk:=fun A' I hh iJ=>Walks.tuple hh I l iJ items
 st:=fun h' k=>⟨⟨_,Heap.get?_push_size _ rfl,rfl,rfl⟩,(hl.at k).push _⟩
set_option maxHeartbeats 3200000 in
theorem vH {r:Addr} {items:Array Value} {ms:List Int} {T:String} {oI:Obj} {St:Addr->Nat->Heap->Prop} {Q:Value->Shared->Prop} (hh:A.handled=none) (src:xY prog w s.heap r items T oI St) (hi:IntsAre items.toList ms) (hb:items.size + 1 < scanBound)
  (h:∀ (h':Heap) (tk:Nat) (ns:List Int),jc prog w h' s.heap.objs.size (kb w) ns->(∀ x,x∈ns↔x∈ms)->ns.length<=ms.length->(∀ b o,s.heap.get? b=some o->h'.get? b=some o)->Q (.ref s.heap.objs.size) { s with heap:=h',toks:=tk }):
  wpAny (model prog w) A (call (.type "set") [.ref r]) Q E s:=by
 obtain ⟨c,tl,Yj⟩:=PySem.F.called_set.mro
 have WX:=PySem.F.called_set.made
 have Bb:=PySem.F.called_set.sub
 refine wpAny_call (codeAny_of_tree ?_)
 show wpAny _ _ (callAny (.type "set") _) _ _ _
 refine wpAny_pure ⟨Code.quiet_builtin _ (by decide +kernel),codeAny_builtin PySem.F.entry_type_call ?_⟩
 rw [Around.under_plain (weight_type_call_type "set" [.ref r] []) rfl]
 have h1:=PySem.F.called_set.notType
 have h2:=PySem.F.called_set.canCreate
 have hct:=PySem.F.typeCall_set_1 (.ref r)
 repeat (any_goals (first | assumption | wp_step))
 refine codeAny_mono (F5 (.ref r) (E:=E) (Q₁:=fun obj bA=>obj=.ref s.heap.objs.size /\ bA={ s with heap:=s.heap.push (gL w) }) ⟨rfl,rfl⟩) fun q bA hq=>?_
 cases q with
 | error e=>exact hq
 | ok fl=>
   cases fl with
   | ret obj=>
     obtain ⟨rfl,rfl⟩:=hq
     have hS:(s.heap.push (gL w)).get? s.heap.objs.size=some (gL w):=Heap.get?_push_size _ rfl
     have hT:Shared.TypeIs { s with heap:=s.heap.push (gL w) } (.ref s.heap.objs.size) "set":=⟨_,hS,rfl⟩
     have hli:=PySem.F.called_set.init.lookup
     have hbi:=PySem.F.called_set.init.bind (.ref s.heap.objs.size)
     repeat (any_goals (first | assumption | wp_step))
     refine codeAny_mono (codeAny_call_builtin (R:=wants (fun v lE=>v=.none /\ ∃ h' tk ns,lE={ s with heap:=h',toks:=tk } /\ jc prog w h' s.heap.objs.size (kb w) ns /\ (∀ x,x∈ns↔x∈ms) /\ ns.length<=ms.length /\ ∀ b o,s.heap.get? b=some o->h'.get? b=some o) E)
      PySem.F.called_set.init.plain PySem.F.entry_set_init (check_set_init_1 hT ?_)) fun P4 lE CV=>?_
     ·obtain ⟨P5,Il,nO⟩:=src.ty
      obtain ⟨Yk,M8,M9,Kc⟩:=P5
      simp only at nO
      subst nO
      have Yl:(s.heap.push (gL w)).get? r=some { cls:=.type T,dict:=M8,data:=M9,slots:=Kc }:=Heap.get?_push_of_some _ Il
      have CW:=src.Ka
      have kA:=src.Kb
      have iJ:=src.nd
      unfold Builtin.«set.__init__» noKeywords Builtin.Frozenset.updateFrom
      generalize Ym:pyIter=PI
      wp_walk
      subst Ym
      refine src.iter _ _ _ _ (fun o e=>Heap.get?_push_of_some _ e) ?_
      refine wpAny_bind (wpAny_runValue ?_)
      have WY:r < s.heap.objs.size:=Heap.lt_size Il
      have Yn:A.in1.in1.in1.handled=none:=by simp [hh]
      have hz:(s.heap.push (gL w)).objs.size=s.heap.objs.size + 1:=Heap.size_push _ _
      have P6:r≠(s.heap.push (gL w)).objs.size:=by rw [hz]; exact Nat.ne_of_lt (Nat.lt_succ_of_lt WY)
      have J9:s.heap.objs.size∉[(s.heap.push (gL w)).objs.size,r]:=by
       rw [hz]; simp only [List.mem_cons,List.not_mem_nil,or_false,not_or]
       exact ⟨Nat.ne_of_lt (Nat.lt_succ_self _),Nat.ne_of_gt WY⟩
      have F6:∀ (i:Nat) (v:Value),items[i]?=some v->∃ t,v=.int ((fun i=>ms.getD i 0) i) t:=fun i v hv=>IntsAre.int_at hi i v (by rw [Array.getElem?_toList]; exact hv)
      have hlen:ms.length=items.size:=by have:=(dE.mp hi).2; rw [this]; simp
      refine CU ((src.walk _ _ Yn P6).toS) s.heap.objs.size J9 (fun i=>ms.getD i 0) F6 hb (items.size - 0) 0 _ [] (by omega) (Nat.zero_le _) (src.st _ fun o e=>Heap.get?_push_of_some _ e) (Bc (Heap.get?_push_of_some _ hS)) (Nat.le_refl _) (fun x=>by simp) ?_
      intro s' my mv S' l' m'
      obtain ⟨h',g',d',Yo,Pn⟩:=s'
      have eg:g'=s.gens:=mv.gens
      have ed:d'=s.drawn:=mv.drawn
      have eo:Pn=s.os:=mv.os
      subst eg ed eo
      show wpAny _ _ _ _ _ _
      refine wpAny_pure ?_
      show wpAny _ _ (ret Value.none) _ _ _
      refine wpAny_pure ⟨rfl,h',Yo,my,rfl,S',fun x=>?_,by omega,fun b o e=>?_⟩
      ·rw [m',<- hlen]
       constructor
       ·rintro ⟨j,hj,e⟩
        rw [List.getD_eq_getElem?_getD,List.getElem?_eq_getElem hj] at e
        rw [<- e]; exact List.getElem_mem hj
       ·intro hx
        obtain ⟨j,hj,e⟩:=List.getElem_of_mem hx
        exact ⟨j,hj,by rw [List.getD_eq_getElem?_getD,List.getElem?_eq_getElem hj]; exact e⟩
      ·have Kd:=Heap.lt_size e
       refine mv.heap b o ?_ (Heap.get?_push_of_some _ (Heap.get?_push_of_some _ e))
       rw [hz]
       simp only [List.mem_cons,List.not_mem_nil,or_false,not_or]
       exact ⟨Nat.ne_of_lt Kd,Nat.ne_of_lt (Nat.lt_succ_of_lt Kd)⟩
     ·cases P4 with
      | error e=>exact CV
      | ok Na=>
        cases Na with
        | ret v=>
          obtain ⟨rfl,h',tk,ns,rfl,S',m',l',k'⟩:=CV
          repeat (any_goals (first | assumption | wp_step))
          exact h _ _ ns S' m' l' k'
        | _=>exact CV.elim
   | _=>exact hq.elim
end
end LS
namespace LS
open PySem PyProof.Rows
set_option maxRecDepth 100000
theorem bS:Slot "set_iterator" "__next__" "set_iterator.__next__":=
 .of (owner:="set_iterator") (n:="__next__") (by rw [typeLookup_type,builtinLookup_eq_fast]; kernel_rfl) (by decide +kernel) (by decide +kernel) (by decide +kernel) (by first | exact .inl (by decide +kernel) | exact .inr (by decide +kernel)) (by rw [isSubtype_type]; kernel_rfl)
theorem mW:Slot "set_iterator" "__iter__" "set_iterator.__iter__":=
 .of (owner:="set_iterator") (n:="__iter__") (by rw [typeLookup_type,builtinLookup_eq_fast]; kernel_rfl) (by decide +kernel) (by decide +kernel) (by decide +kernel) (by first | exact .inl (by decide +kernel) | exact .inr (by decide +kernel)) (by rw [isSubtype_type]; kernel_rfl)
theorem gM:entryFor table "set_iterator.__next__"=some Builtin.«set_iterator.__next__»:=entryFor_of_tree (by kernel_rfl)
theorem rg:entryFor table "set_iterator.__iter__"=some Builtin.«dict_keyiterator.__iter__»:=
 entryFor_alias (id':="dict_keyiterator.__iter__") (by kernel_rfl) (by first | rfl | decide +kernel | (unfold String.splitOn; simp +decide [String.splitOnAux])) (by decide +kernel) (by kernel_rfl)
theorem pU:entryFor table "set.__iter__"=some Builtin.«frozenset.__iter__»:=
 entryFor_alias (id':="frozenset.__iter__") (by kernel_rfl) (by first | rfl | decide +kernel | (unfold String.splitOn; simp +decide [String.splitOnAux])) (by decide +kernel) (by kernel_rfl)
theorem vI:Manifest.owners.lookup (String.ofList ['r','o','t','a','r','e','t','i','_','t','e','s'].reverse)=some Manifest.sig_set_iterator:=by kernel_rfl
theorem ic (a:Value):argsOk "set_iterator.__next__" ⟨[a],[]⟩:=by
 unfold argsOk; rw [signature?_of (id:="set_iterator.__next__") (n:=['_','_','t','x','e','n','_','_']) (o:=['r','o','t','a','r','e','t','i','_','t','e','s']) (by kernel_rfl) vI]; kernel_rfl
theorem tq (a:Value):argsOk "set_iterator.__iter__" ⟨[a],[]⟩:=by
 unfold argsOk; rw [signature?_of (id:="set_iterator.__iter__") (n:=['_','_','r','e','t','i','_','_']) (o:=['r','o','t','a','r','e','t','i','_','t','e','s']) (by kernel_rfl) vI]; kernel_rfl
def jt (h:Heap) (it a:Addr) (first:Value) (i n ep:Nat):Prop:=∃ o,h.get? it=some o /\ o.cls=.type "set_iterator" /\ o.data=.fields #[first,.int i 0,.ref a,.int n 0,.int ep 0]
section
variable {prog:Program} {w:World} {A:Around} {E:Value->Shared->Prop} {s:Shared} {it a:Addr} {first:Value} {i n ep:Nat}
theorem jt.at {h h':Heap} (x:jt h it a first i n ep) (k:∀ o,h.get? it=some o->h'.get? it=some o):jt h' it a first i n ep:=let ⟨o,e,r⟩:=x; ⟨o,k o e,r⟩
theorem jt.typeIs (x:jt s.heap it a first i n ep):s.TypeIs (.ref it) "set_iterator":=let ⟨o,e,c,_⟩:=x; ⟨o,e,c⟩
def gj (h:Heap) (a:Addr) (es:Array (Int×Value)) (ep:Nat) (t:SetTable):Prop:=∃ o,h.get? a=some o /\ o.ExactSet /\ o.data=.set es ep t
theorem gj.at {h h':Heap} {es:Array (Int×Value)} {t:SetTable} (x:gj h a es ep t) (k:∀ o,h.get? a=some o->h'.get? a=some o):gj h' a es ep t:=let ⟨o,e,r⟩:=x; ⟨o,k o e,r⟩
theorem tu (hit:jt s.heap it a first i n ep) {Q:Value->Shared->Prop} (h:Q (.ref it) s):wpAny (model prog w) A (pyIter (.ref it)) Q E s:=by
 refine wpAny_pyIter_slot hit.typeIs mW (wpAny_call_entry mW hit.typeIs rg ?_ (tq _))
 show wpAny _ _ (ret (.ref it)) _ _ s
 exact wpAny_pure ⟨_,rfl,"set_iterator",_,hit.typeIs,bS.lookup,h⟩
variable {es:Array (Int×Value)} {t:SetTable} {slot:Nat}
theorem zO {x:Value} {next:Nat} {Q:Option Value->Shared->Prop} (hit:jt s.heap it a (.int slot 0) i n ep) (hS:gj s.heap a es ep t) (hf:t.fits es.size=true) (hn:es.size=n)
  (hx:∀ (A':Around) (Q':Option (Value×Nat)->Shared->Prop) (E':Value->Shared->Prop),Q' (some (x,next)) s->wpAny (model prog w) A' (setNext a slot i ep) Q' E' s)
  (hQ:∀ h',jt h' it a (.int next 0) (i + 1) n ep->Heap.SameBut it s.heap h'->Q (some x) { s with heap:=h' }):wpAny (model prog w) A (pyNext (.ref it)) Q E s:=by
 obtain ⟨o,ho,hc,hd⟩:=id hit
 obtain ⟨os,Im,hex,Io⟩:=id hS
 unfold pyNext
 refine wpAny_bind (wpAny_attempt (wpAny_callSpecial?_slot (name:=Str.ofString "__next__") hit.typeIs bS (wpAny_call_entry bS hit.typeIs gM ?_ (ic _))))
 unfold Builtin.«set_iterator.__next__»
 refine wpAny_bind (wpAny_pure ?_)
 dsimp only
 refine wpAny_bind (wpAny_fieldsOf ho hd ?_)
 dsimp only
 refine wpAny_bind (wpAny_setEntries_of Im Io hf ?_)
 rw [if_neg (by rw [hn]; simp)]
 refine wpAny_bind ?_
 simp only [Int.toNat_natCast]
 refine hx _ _ _ ?_
 dsimp only
 refine wpAny_bind (wpAny_setField ho hd (by simp) ?_)
 have e1:=Heap.get?_update_self (Obj.mapFields (·.setIfInBounds 0 (rawInt next))) ho (Obj.isFreed_of_fields (Obj.data_mapFields hd _))
 have d1:=Obj.data_mapFields hd (·.setIfInBounds 0 (rawInt next))
 refine wpAny_bind (wpAny_setField e1 d1 (by simp) ?_)
 refine wpAny_pure ⟨x,rfl,wpAny_pure (hQ _ ?_ ((Heap.SameBut.update ..).trans (Heap.SameBut.update ..)))⟩
 refine ⟨_,Heap.get?_update_self _ e1 (Obj.isFreed_of_fields (Obj.data_mapFields d1 _)),?_,?_⟩
 ·rw [Obj.cls_mapFields,Obj.cls_mapFields]; exact hc
 ·rw [Obj.data_mapFields d1]; simp [rawInt]
theorem CY {Q:Option Value->Shared->Prop} (hh:A.handled=none) (hit:jt s.heap it a (.int slot 0) i n ep) (hS:gj s.heap a es ep t) (hf:t.fits es.size=true) (hn:es.size=n)
  (hx:∀ (A':Around) (Q':Option (Value×Nat)->Shared->Prop) (E':Value->Shared->Prop),Q' none s->wpAny (model prog w) A' (setNext a slot i ep) Q' E' s)
  (hQ:∀ h',Heap.ExtBut it s.heap h'->Q none { s with heap:=h' }):wpAny (model prog w) A (pyNext (.ref it)) Q E s:=by
 obtain ⟨o,ho,hc,hd⟩:=id hit
 obtain ⟨os,Im,hex,Io⟩:=id hS
 unfold pyNext
 refine wpAny_bind (wpAny_attempt (wpAny_callSpecial?_slot (name:=Str.ofString "__next__") hit.typeIs bS (wpAny_call_entry bS hit.typeIs gM ?_ (ic _))))
 unfold Builtin.«set_iterator.__next__»
 refine wpAny_bind (wpAny_pure ?_)
 dsimp only
 refine wpAny_bind (wpAny_fieldsOf ho hd ?_)
 dsimp only
 refine wpAny_bind (wpAny_setEntries_of Im Io hf ?_)
 rw [if_neg (by rw [hn]; simp)]
 refine wpAny_bind ?_
 simp only [Int.toNat_natCast]
 refine hx _ _ _ ?_
 dsimp only
 refine wpAny_bind (wpAny_setField ho hd (by simp) ?_)
 refine wpAny_bind ?_
 simp only [newExc,newTuple]
 refine wpAny_bind (wpAny_newObj_type ?_ (by size_fits))
 refine wpAny_bind (m:=firstArgMember _ _) (wpAny_of_eq (a:=Value.none) (by first | rfl | (simp only [firstArgMember]; rfl)) ?_)
 refine wpAny_newObj_type ?_ (by size_fits)
 simp only [raiseNew]
 refine wpAny_bind (wpAny_handled ?_)
 first | rw [show A.in1.handled=none from hh] | rw [hh]
 refine wpAny_bind (wpAny_pure (wpAny_throw ?_))
 refine wpAny_bind (wpAny_isInstance (T:="StopIteration") (b:=true) ⟨_,Heap.get?_push_size _ rfl,rfl⟩ isSubtype_stop ?_)
 exact wpAny_pure (hQ _ (((Heap.SameBut.update ..).extBut.push _).push _))
theorem CZ {x:Value} {pl:Nat} {tp:Addr} {ps:Array Value} {hsh:Int} {Q:Option Value->Shared->Prop} (hit:jt s.heap it a (.ref tp) i n ep) (ht:s.heap.IsTuple tp ps) (hS:gj s.heap a es ep t) (hf:t.fits es.size=true) (hn:es.size=n)
  (hp:ps[i]?=some (.int pl 0)) (hx:es[pl]?=some (hsh,x))
  (hQ:∀ h',jt h' it a (.ref tp) (i + 1) n ep->Heap.SameBut it s.heap h'->Q (some x) { s with heap:=h' }):wpAny (model prog w) A (pyNext (.ref it)) Q E s:=by
 obtain ⟨o,ho,hc,hd⟩:=id hit
 obtain ⟨os,Im,hex,Io⟩:=id hS
 obtain ⟨ot,P7,_,nt,P8⟩:=ht
 unfold pyNext
 refine wpAny_bind (wpAny_attempt (wpAny_callSpecial?_slot (name:=Str.ofString "__next__") hit.typeIs bS (wpAny_call_entry bS hit.typeIs gM ?_ (ic _))))
 unfold Builtin.«set_iterator.__next__»
 refine wpAny_bind (wpAny_pure ?_)
 dsimp only
 refine wpAny_bind (wpAny_fieldsOf ho hd ?_)
 dsimp only
 refine wpAny_bind (wpAny_setEntries_of Im Io hf ?_)
 rw [if_neg (by rw [hn]; simp)]
 refine wpAny_bind (wpAny_seqItems P7 P8 ?_)
 dsimp only
 simp only [Int.toNat_natCast,hp]
 refine wpAny_bind ?_
 unfold setNextDrawn
 refine wpAny_bind (wpAny_setState_of Im Io hf ?_)
 dsimp only
 rw [if_neg (by simp)]
 simp only [hx]
 refine wpAny_pure ?_
 refine wpAny_bind (wpAny_setField ho hd (by simp) ?_)
 refine wpAny_pure ⟨x,rfl,wpAny_pure (hQ _ ?_ (Heap.SameBut.update ..))⟩
 refine ⟨_,Heap.get?_update_self _ ho (Obj.isFreed_of_fields (Obj.data_mapFields hd _)),?_,?_⟩
 ·rw [Obj.cls_mapFields]; exact hc
 ·rw [Obj.data_mapFields hd]; simp [rawInt]
theorem F7 {tp:Addr} {ps:Array Value} {Q:Option Value->Shared->Prop} (hh:A.handled=none) (hit:jt s.heap it a (.ref tp) i n ep) (ht:s.heap.IsTuple tp ps) (hS:gj s.heap a es ep t) (hf:t.fits es.size=true) (hn:es.size=n)
  (hp:ps[i]?=none) (hQ:∀ h',Heap.ExtBut it s.heap h'->Q none { s with heap:=h' }):wpAny (model prog w) A (pyNext (.ref it)) Q E s:=by
 obtain ⟨o,ho,hc,hd⟩:=id hit
 obtain ⟨os,Im,hex,Io⟩:=id hS
 obtain ⟨ot,P7,_,nt,P8⟩:=ht
 unfold pyNext
 refine wpAny_bind (wpAny_attempt (wpAny_callSpecial?_slot (name:=Str.ofString "__next__") hit.typeIs bS (wpAny_call_entry bS hit.typeIs gM ?_ (ic _))))
 unfold Builtin.«set_iterator.__next__»
 refine wpAny_bind (wpAny_pure ?_)
 dsimp only
 refine wpAny_bind (wpAny_fieldsOf ho hd ?_)
 dsimp only
 refine wpAny_bind (wpAny_setEntries_of Im Io hf ?_)
 rw [if_neg (by rw [hn]; simp)]
 refine wpAny_bind (wpAny_seqItems P7 P8 ?_)
 dsimp only
 simp only [Int.toNat_natCast,hp]
 refine wpAny_bind (wpAny_setField ho hd (by simp) ?_)
 have e1:=Heap.get?_update_self (Obj.mapFields (·.setIfInBounds 0 (rawInt 0))) ho (Obj.isFreed_of_fields (Obj.data_mapFields hd _))
 have d1:=Obj.data_mapFields hd (·.setIfInBounds 0 (rawInt 0))
 refine wpAny_bind (wpAny_setField e1 d1 (by simp) ?_)
 refine wpAny_bind ?_
 simp only [newExc,newTuple]
 refine wpAny_bind (wpAny_newObj_type ?_ (by size_fits))
 refine wpAny_bind (m:=firstArgMember _ _) (wpAny_of_eq (a:=Value.none) (by first | rfl | (simp only [firstArgMember]; rfl)) ?_)
 refine wpAny_newObj_type ?_ (by size_fits)
 simp only [raiseNew]
 refine wpAny_bind (wpAny_handled ?_)
 first | rw [show A.in1.handled=none from hh] | rw [hh]
 refine wpAny_bind (wpAny_pure (wpAny_throw ?_))
 refine wpAny_bind (wpAny_isInstance (T:="StopIteration") (b:=true) ⟨_,Heap.get?_push_size _ rfl,rfl⟩ isSubtype_stop ?_)
 exact wpAny_pure (hQ _ ((((Heap.SameBut.update ..).trans (Heap.SameBut.update ..)).extBut.push _).push _))
theorem pV (hS:gj s.heap a es ep t) (hf:t.fits es.size=true) (hw:w.params.followText "set-order"=false) (hl:t.led=true) (hp:(!t.plain && decide (es.size > 1))=false) {Q:Option (Value×Nat)->Shared->Prop}
  (h:Q (match es[SetTable.below t.place slot]?,t.place[SetTable.below t.place slot]? with | some (_,x),some j=>some (x,j + 1) | _,_=>none) s):wpAny (model prog w) A (setNext a slot i ep) Q E s:=by
 obtain ⟨o,ho,_,hd⟩:=hS
 unfold setNext
 refine wpAny_bind (wpAny_setState_of ho hd hf ?_)
 dsimp only
 refine wpAny_bind ?_
 unfold setsByText
 refine wpAny_bind (wpAny_askSetting (wpAny_pure ?_))
 show wpAny _ _ (if w.params.followText "set-order"=true then _ else _) _ _ _
 rw [hw,if_neg Bool.false_ne_true]
 show wpAny _ _ (if (!t.plain && decide (es.size > 1))=true then _ else _) _ _ _
 rw [hp,if_neg Bool.false_ne_true]
 refine wpAny_bind ?_
 show wpAny _ _ (if (!t.led && !es.isEmpty)=true then _ else _) _ _ _
 rw [hl,if_neg (by simp)]
 exact wpAny_pure (wpAny_pure h)
theorem se (hS:gj s.heap a es ep t) (hf:t.fits es.size=true) (hw:w.params.followText "set-order"=true) {Q:Option (Value×Nat)->Shared->Prop}
  (h:Q (((pickOrder (w.params.setOrder a ep) es)[i]?).map fun e=>(e.2,slot)) s):wpAny (model prog w) A (setNext a slot i ep) Q E s:=by
 obtain ⟨o,ho,_,hd⟩:=hS
 unfold setNext
 refine wpAny_bind (wpAny_setState_of ho hd hf ?_)
 dsimp only
 refine wpAny_bind ?_
 unfold setsByText
 refine wpAny_bind (wpAny_askSetting (wpAny_pure ?_))
 show wpAny _ _ (if w.params.followText "set-order"=true then _ else _) _ _ _
 rw [hw,if_pos rfl]
 rw [if_neg (by simp)]
 refine wpAny_bind ?_
 unfold setWalk
 refine wpAny_bind (wpAny_setState_of ho hd hf ?_)
 dsimp only
 refine wpAny_bind ?_
 unfold setsByText
 refine wpAny_bind (wpAny_askSetting (wpAny_pure ?_))
 show wpAny _ _ (if w.params.followText "set-order"=true then _ else _) _ _ _
 rw [hw,if_pos rfl]
 exact wpAny_bind (wpAny_askSetting (wpAny_pure (wpAny_pure h)))
end
end LS
namespace LS
open PySem PySem.Spec PyProof.Rows
theorem lM {α:Type}:∀ {l:List α} {i:Nat} (h:i < l.length),(l[i] :: l.eraseIdx i).Perm l
 | x :: l,0,_=>by simp
 | x :: l,i + 1,h=>by
   have h':i < l.length:=by simpa using h
   have:=lM h'
   simp only [List.getElem_cons_succ,List.eraseIdx_cons_succ]
   exact (List.Perm.swap _ _ _).trans (List.Perm.cons _ this)
theorem zP {α:Type} (next:Nat->Nat):∀ (fuel k:Nat) (left:List α) (out:Array α),left.length=fuel->(pickOrder.go next fuel k left out).toList.Perm (out.toList ++ left)
 | 0,k,left,out,h=>by
   have:left=[]:=List.length_eq_zero_iff.mp h
   subst this
   rw [pickOrder.go,List.append_nil]
 | fuel + 1,k,left,out,h=>by
   rw [pickOrder.go]
   have hl:next k % left.length < left.length:=Nat.mod_lt _ (by omega)
   rw [List.getElem?_eq_getElem hl]
   dsimp only
   refine (zP next fuel (k + 1) _ _ (by rw [List.length_eraseIdx_of_lt hl]; omega)).trans ?_
   rw [Array.toList_push,List.append_assoc]
   exact List.Perm.append_left _ (lM hl)
theorem Be {α:Type} (next:Nat->Nat) (xs:Array α):(pickOrder next xs).toList.Perm xs.toList:=by
 have:=zP next xs.size 0 xs.toList #[] (by simp)
 simpa [pickOrder] using this
section
variable {prog:Program} {w:World} {A:Around} {E:Value->Shared->Prop} {s:Shared} {it a:Addr} {first:Value} {i n ep:Nat} {es:Array (Int×Value)} {t:SetTable}
theorem xZ {M:Model} {src:Source} {Q:Nat->Shared->Prop} (hn:n≠0) (h:∀ i d',i < n->Q i { s with drawn:=d' }):wpAny M A (choose src n) Q E s:=
 fun _ _ _=>⟨hn,h _ _ (Nat.mod_lt _ (Nat.pos_of_ne_zero hn))⟩
theorem pW {α:Type} {M:Model}:∀ (n:Nat) (xs:List α) (s:Shared) (Q:List α->Shared->Prop),xs.length=n->(∀ ys d',ys.Perm xs->Q ys { s with drawn:=d' })->wpAny M A (drawOrder n xs) Q E s
 | 0,xs,s,Q,hl,h=>by
   have e:xs=[]:=List.length_eq_zero_iff.mp hl
   subst e
   rw [drawOrder]
   exact wpAny_pure (h [] s.drawn (.refl _))
 | n + 1,[],s,Q,hl,h=>by cases hl
 | n + 1,x :: xs,s,Q,hl,h=>by
   rw [drawOrder]
   rotate_left
   ·intro z; cases z
   refine wpAny_bind (xZ (by simp) fun i d' hi=>?_)
   rw [List.getElem?_eq_getElem hi]
   dsimp only
   refine wpAny_bind (pW n _ _ _ (by rw [List.length_eraseIdx_of_lt hi]; simp at hl ⊢; omega) fun ys d2 hp=>wpAny_pure ?_)
   refine h _ d2 ?_
   exact (List.Perm.cons _ hp).trans (lM hi)
theorem Bf {I:Addr} (hf:t.fits es.size=true) (hw:w.params.followText "set-order"=true) (iJ:a≠I) (hh:A.handled=none):
  Walks prog w A I [I,a] [I] (pickOrder (w.params.setOrder a ep) es).size (fun i v=>((pickOrder (w.params.setOrder a ep) es).toList.map (·.2))[i]?=some v) (fun i h=>jt h I a (.int (0:Nat) 0) i es.size ep /\ gj h a es ep t) where
 sub:=fun b hb=>by simp at hb; simp [hb]
 frame:=fun _ _ _ st hk=>⟨st.1.at fun o e=>hk I (by simp) o e,st.2.at fun o e=>hk a (by simp) o e⟩
 item:=fun i s Q E hi st hQ=>by
  refine zO (x:=((pickOrder (w.params.setOrder a ep) es)[i]).2) (next:=0) st.1 st.2 hf rfl (fun A' Q' E' q=>se st.2 hf hw (by rw [Array.getElem?_eq_getElem hi]; exact q)) fun h' xV jY=>?_
  exact hQ _ h' s.toks (by simp [hi]) ⟨xV,st.2.at fun o e=>jY.extBut a o iJ e⟩ fun b o hb e=>jY.extBut b o (fun h=>hb (by simp [h])) e
 done:=fun s Q E st hQ=>CY hh st.1 st.2 hf rfl (fun A' Q' E' q=>se st.2 hf hw (by rw [Array.getElem?_eq_none (by simp)]; exact q)) fun h' Ke=>hQ h' s.toks fun b o hb e=>Ke b o (fun h=>hb (by simp [h])) e
 self:=fun _ _ _ _ st hQ=>tu st.1 hQ
theorem ya {I:Addr} (hf:t.fits es.size=true) (hw:w.params.followText "set-order"=false) (hl:t.led=true) (hp:(!t.plain && decide (es.size > 1))=false) (hr:r9 t.place.toList) (iJ:a≠I) (hh:A.handled=none):
  Walks prog w A I [I,a] [I] es.size (fun i v=>(es.toList.map (·.2))[i]?=some v)
   (fun i h=>∃ slot:Nat,jt h I a (.int slot 0) i es.size ep /\ gj h a es ep t /\ (∀ k,k < i->t.place.getD k 0 < slot) /\ ∀ k,i<=k->k < t.place.size->slot<=t.place.getD k 0) where
 sub:=fun b hb=>by simp at hb; simp [hb]
 frame:=fun _ _ _ ⟨slot,Kf,cM,B3⟩ hk=>⟨slot,Kf.at fun o e=>hk I (by simp) o e,cM.at fun o e=>hk a (by simp) o e,B3⟩
 item:=fun i s Q E hi ⟨slot,Kf,cM,B3,P9⟩ hQ=>by
  have hz:t.place.size=es.size:=by simp only [SetTable.fits,Bool.and_eq_true,beq_iff_eq] at hf; exact hf.1
  have hb:SetTable.below t.place slot=i:=pT hr (by omega) B3 P9
  have lp:t.place[i]?=some (t.place.getD i 0):=by rw [Array.getElem?_eq_getElem (by omega)]; simp [Array.getD,hz,hi]
  refine zO (x:=es[i].2) (next:=t.place.getD i 0 + 1) Kf cM hf rfl (fun A' Q' E' q=>pV cM hf hw hl hp (by rw [hb,Array.getElem?_eq_getElem hi,lp]; exact q)) fun h' xV jY=>?_
  refine hQ _ h' s.toks (by simp [hi]) ⟨_,xV,cM.at fun o e=>jY.extBut a o iJ e,fun k hk=>?_,fun k h1 h2=>?_⟩ fun b o hb e=>jY.extBut b o (fun h=>hb (by simp [h])) e
  ·by_cases Yp:k=i
   ·rw [Yp]; omega
   ·have:=kE hr (show k < i by omega) (by omega) 0 0
    omega
  ·have:=kE hr (show i < k by omega) h2 0 0
   omega
 done:=fun s Q E ⟨slot,Kf,cM,B3,P9⟩ hQ=>by
  have hz:t.place.size=es.size:=by simp only [SetTable.fits,Bool.and_eq_true,beq_iff_eq] at hf; exact hf.1
  have hb:SetTable.below t.place slot=es.size:=pT hr (by omega) B3 P9
  exact CY hh Kf cM hf rfl (fun A' Q' E' q=>pV cM hf hw hl hp (by rw [hb,Array.getElem?_eq_none (Nat.le_refl _)]; exact q)) fun h' Ke=>hQ h' s.toks fun b o hb e=>Ke b o (fun h=>hb (by simp [h])) e
 self:=fun _ _ _ _ ⟨slot,Kf,_⟩ hQ=>tu Kf hQ
theorem yb {I tp:Addr} {ys:List Nat} (hf:t.fits es.size=true) (hy:ys.Perm (List.range es.size)) (iJ:a≠I) (Yq:tp≠I) (hh:A.handled=none):
  Walks prog w A I [I,a,tp] [I] es.size (fun i v=>(ys.map fun p=>(es.getD p (0,Value.none)).2)[i]?=some v) (fun i h=>jt h I a (.ref tp) i es.size ep /\ h.IsTuple tp (ys.map fun p:Nat=>rawInt p).toArray /\ gj h a es ep t) where
 sub:=fun b hb=>by simp at hb; simp [hb]
 frame:=fun _ _ _ st hk=>⟨st.1.at fun o e=>hk I (by simp) o e,st.2.1.at fun o e=>hk tp (by simp) o e,st.2.2.at fun o e=>hk a (by simp) o e⟩
 item:=fun i s Q E hi st hQ=>by
  have Kg:ys.length=es.size:=by rw [hy.length_eq]; simp
  have hp:ys[i] < es.size:=List.mem_range.mp (hy.mem_iff.mp (List.getElem_mem (by omega)))
  refine CZ (x:=es[ys[i]].2) (pl:=ys[i]) (hsh:=es[ys[i]].1) st.1 st.2.1 st.2.2 hf rfl (by simp [Kg,hi,rawInt]) (by rw [Array.getElem?_eq_getElem hp]) fun h' xV jY=>?_
  refine hQ _ h' s.toks ?_ ⟨xV,st.2.1.at fun o e=>jY.extBut tp o Yq e,st.2.2.at fun o e=>jY.extBut a o iJ e⟩ fun b o hb e=>jY.extBut b o (fun h=>hb (by simp [h])) e
  rw [List.getElem?_map,List.getElem?_eq_getElem (by omega)]
  simp [Array.getD,hp]
 done:=fun s Q E st hQ=>by
  have Kg:ys.length=es.size:=by rw [hy.length_eq]; simp
  exact F7 hh st.1 st.2.1 st.2.2 hf rfl (by simp [Kg]) fun h' Ke=>hQ h' s.toks fun b o hb e=>Ke b o (fun h=>hb (by simp [h])) e
 self:=fun _ _ _ _ st hQ=>tu st.1 hQ
theorem C0 {Q:Value->Shared->Prop} (hS:gj s.heap a es ep t) (hf:t.fits es.size=true) (hr:r9 t.place.toList) (hl:t.led=kb w) (hz:es.size<=sizeLine)
  (h:∀ (I:Addr) (fp:List Addr) (ord:List Value) (St:Nat->Heap->Prop) (h1:Heap) (d1:Drawn),ord.Perm (es.toList.map (·.2))->(∀ A':Around,A'.handled=none->Walks prog w A' I fp [I] ord.length (fun i v=>ord[i]?=some v) St)->St 0 h1->
   (∀ b o,s.heap.get? b=some o->h1.get? b=some o)->s.heap.objs.size<=I->(∀ b∈fp,b=a \/ s.heap.objs.size<=b)->Q (.ref I) { s with heap:=h1,drawn:=d1 }):wpAny (model prog w) A (pyIter (.ref a)) Q E s:=by
 obtain ⟨o,ho,hex,hd⟩:=id hS
 have hT:s.TypeIs (.ref a) "set":=⟨o,ho,hex.1⟩
 have fR:=Heap.lt_size ho
 refine wpAny_pyIter_slot hT PySem.F.slot_set_iter (wpAny_call_entry PySem.F.slot_set_iter hT pU ?_ (PySem.F.args_set_iter_1 _))
 unfold Builtin.«frozenset.__iter__»
 refine wpAny_bind (wpAny_pure ?_)
 refine wpAny_bind ?_
 unfold Builtin.Frozenset.sizeOf
 refine wpAny_bind (wpAny_setEntries_of ho hd hf (wpAny_pure ?_))
 refine wpAny_bind ?_
 unfold setDrawn
 refine wpAny_bind (wpAny_setState_of ho hd hf ?_)
 dsimp only
 refine wpAny_bind ?_
 unfold setsByText
 refine wpAny_bind (wpAny_askSetting (wpAny_pure (wpAny_pure ?_)))
 show wpAny _ _ (if (!w.params.followText "set-order" && (!t.plain && decide (es.size > 1)))=true then _ else _) _ _ _
 have slots:∀ {ord:List Value} (St:Addr->Nat->Heap->Prop),ord.Perm (es.toList.map (·.2))->(∀ (A':Around) (I:Addr),a≠I->A'.handled=none->Walks prog w A' I [I,a] [I] ord.length (fun i v=>ord[i]?=some v) (St I))->
   (∀ h' I,jt h' I a (.int (0:Nat) 0) 0 es.size ep->gj h' a es ep t->St I 0 h')->Q (.ref s.heap.objs.size) { s with heap:=s.heap.push { cls:=.type "set_iterator",data:=.fields #[.int (0:Nat) 0,.int (0:Nat) 0,.ref a,.int (es.size:Nat) 0,.int (ep:Nat) 0] } }:=by
  intro ord St hp hW Mk
  have iJ:a≠s.heap.objs.size:=Nat.ne_of_lt fR
  exact h s.heap.objs.size [s.heap.objs.size,a] ord (St s.heap.objs.size) _ s.drawn hp (fun A' hh=>hW A' _ iJ hh) (Mk _ _ ⟨_,Heap.get?_push_size _ rfl,rfl,rfl⟩ (hS.at fun o e=>Heap.get?_push_of_some _ e)) (fun b o e=>Heap.get?_push_of_some _ e) (Nat.le_refl _)
   fun b hb=>by
    rcases List.mem_cons.mp hb with z | z
    ·exact .inr (by rw [z]; exact Nat.le_refl _)
    ·exact .inl (by simpa using z)
 by_cases OB:(!w.params.followText "set-order" && (!t.plain && decide (es.size > 1)))=true
 ·rw [if_pos OB]
  refine wpAny_bind (pW _ _ _ _ (by simp) fun ys d' hy=>?_)
  refine wpAny_bind (wpAny_newTuple ?_ (by rw [List.length_map,hy.length_eq]; simpa using hz))
  have Yr:(s.heap.push { cls:=.type "tuple",data:=.seq (ys.map fun p:Nat=>rawInt p).toArray }).IsTuple s.heap.objs.size (ys.map fun p:Nat=>rawInt p).toArray:=⟨_,Heap.get?_push_size _ rfl,rfl,_,rfl⟩
  have LM:=hS.at (h':=s.heap.push { cls:=.type "tuple",data:=.seq (ys.map fun p:Nat=>rawInt p).toArray }) fun o e=>Heap.get?_push_of_some _ e
  obtain ⟨o1,gQ,_,C1⟩:=id LM
  refine wpAny_bind (wpAny_setEpoch_of gQ C1 hf ?_)
  have CW:(s.heap.push { cls:=.type "tuple",data:=.seq (ys.map fun p:Nat=>rawInt p).toArray }).objs.size=s.heap.objs.size + 1:=Heap.size_push _ _
  refine wpAny_bind (wpAny_newObj_type (wpAny_pure ⟨_,rfl,"set_iterator",_,⟨_,Heap.get?_push_size _ rfl,rfl⟩,bS.lookup,?_⟩))
  have Ys:(ys.map fun p=>(es.getD p (0,Value.none)).2).Perm (es.toList.map (·.2)):=by
   refine (hy.map _).trans ?_
   have e:(List.range es.size).map (fun p=>(es.getD p (0,Value.none)).2)=es.toList.map (·.2):=by
    refine List.ext_getElem (by simp) fun i h1 h2=>?_
    simp at h1
    simp [Array.getD,h1]
   rw [e]
  have J7:(ys.map fun p=>(es.getD p (0,Value.none)).2).length=es.size:=by rw [List.length_map,hy.length_eq]; simp
  refine h (s.heap.push { cls:=.type "tuple",data:=.seq (ys.map fun p:Nat=>rawInt p).toArray }).objs.size [_,a,s.heap.objs.size] _ (fun i h=>jt h (s.heap.push { cls:=.type "tuple",data:=.seq (ys.map fun p:Nat=>rawInt p).toArray }).objs.size a (.ref s.heap.objs.size) i es.size ep /\ h.IsTuple s.heap.objs.size (ys.map fun p:Nat=>rawInt p).toArray /\ gj h a es ep t) _ d' Ys (fun A' hh=>by rw [J7]; exact yb (t:=t) (ep:=ep) hf hy (by rw [CW]; exact Nat.ne_of_lt (Nat.lt_succ_of_lt fR)) (by rw [CW]; exact Nat.ne_of_lt (Nat.lt_succ_self _)) hh)
   ⟨⟨_,Heap.get?_push_size _ rfl,rfl,by simp [rawInt]⟩,Yr.push _,LM.at fun o e=>Heap.get?_push_of_some _ e⟩ (fun b o e=>Heap.get?_push_of_some _ (Heap.get?_push_of_some _ e)) (by rw [CW]; exact Nat.le_succ _) fun b hb=>?_
  simp only [List.mem_cons,List.not_mem_nil,or_false] at hb
  rcases hb with z | z | z
  ·exact .inr (by rw [z,CW]; exact Nat.le_succ _)
  ·exact .inl z
  ·exact .inr (by rw [z]; exact Nat.le_refl _)
 ·rw [if_neg OB]
  refine wpAny_bind (wpAny_pure ?_)
  refine wpAny_bind (wpAny_setEpoch_of ho hd hf ?_)
  refine wpAny_bind (wpAny_newObj_type (wpAny_pure ⟨_,rfl,"set_iterator",_,⟨_,Heap.get?_push_size _ rfl,rfl⟩,bS.lookup,?_⟩))
  cases hw:w.params.followText "set-order" with
  | true=>
    have Qa:((pickOrder (w.params.setOrder a ep) es).toList.map (·.2)).length=(pickOrder (w.params.setOrder a ep) es).size:=by simp
    exact slots (ord:=(pickOrder (w.params.setOrder a ep) es).toList.map (·.2)) (fun I i h=>jt h I a (.int (0:Nat) 0) i es.size ep /\ gj h a es ep t) ((Be _ _).map _) (fun A' I iJ hh=>by rw [Qa]; exact Bf hf hw iJ hh) fun h' I x y=>⟨x,y⟩
  | false=>
    rw [hw] at OB
    have lp:(!t.plain && decide (es.size > 1))=false:=by simpa using OB
    have hle:t.led=true:=by rw [hl]; simp [kb,hw]
    have Qa:(es.toList.map (·.2)).length=es.size:=by simp
    refine slots (ord:=es.toList.map (·.2)) (fun I i h=>∃ slot:Nat,jt h I a (.int slot 0) i es.size ep /\ gj h a es ep t /\ (∀ k,k < i->t.place.getD k 0 < slot) /\ ∀ k,i<=k->k < t.place.size->slot<=t.place.getD k 0) (.refl _)
     (fun A' I iJ hh=>by rw [Qa]; exact ya hf hw hle lp hr iJ hh) fun h' I x y=>⟨0,x,y,fun k hk=>by omega,fun k _ _=>Nat.zero_le _⟩
end
end LS
namespace LS
open PySem PySem.Spec PySem.Calls PyProof.Rows
section
variable {prog:Program} {w:World} {A:Around} {E:Value->Shared->Prop} {s:Shared} {a:Addr} {ns:List Int}
theorem C2 {Q:Bool->Shared->Prop} (hT:s.TypeIs (.ref a) "set") (h:Q false s):wpAny (model prog w) A (Builtin.List.listLengthHint (.ref a)) Q E s:=by
 unfold Builtin.List.listLengthHint
 refine wpAny_bind (wpAny_specialOf hT PySem.F.slot_set_len.lookup ?_)
 generalize WZ:("set.__len__":String)=id0
 wp_delta
 rw [show splitId id0=some ("set","__len__") from by subst WZ; decide +kernel]
 subst WZ
 refine wpAny_bind (wpAny_isInstance (T:="set") (b:=true) hT (by rw [isSubtype_type]; kernel_rfl) ?_)
 refine wpAny_ite_split (fun z=>absurd z (by decide)) fun _=>?_
 refine wpAny_ite_split (fun _=>?_) fun z=>absurd (by decide +kernel) z
 exact wpAny_bind (wpAny_typeOf hT (wpAny_pure h))
theorem vJ {R:List Value->Shared->Prop} (hh:A.handled=none) (hS:jc prog w s.heap a (kb w) ns)
  (h:∀ (h':Heap) (tk:Nat) (d':Drawn) (vs:List Value) (ms:List Int),(∀ b o,s.heap.get? b=some o->h'.get? b=some o)->s.heap.objs.size < h'.objs.size->IntsAre vs ms->ms.Perm ns->R vs { s with heap:=h',toks:=tk,drawn:=d' }):
  wpAny (model prog w) A (collect (.ref a)) R E s:=by
 obtain ⟨o,es,ep,t,ho,hex,hd,h1,h2,h3,h4,h5,h6,h7⟩:=hS
 have hz:=fits_of_scanBound h4
 have fR:=Heap.lt_size ho
 have Yt:gj s.heap a es ep t:=⟨o,ho,hex,hd⟩
 unfold collect
 refine wpAny_bind (wpAny_runValue (codeAny_builtin entry_proto_collect' ?_))
 rw [Around.under_plainId PySem.F.plain_proto_collect _]
 show wpAny _ A.in1 (newList [] >>= fun l=>again (.builtin "list.__iadd__" ⟨[l,.ref a],[]⟩)) _ _ s
 refine wpAny_bind (wpAny_newObj_type ?_)
 refine wpAny_pure ⟨plainId_quiet PySem.F.plain_list_iadd _,codeAny_builtin entry_list_iadd' ?_⟩
 rw [Around.under_plainId PySem.F.plain_list_iadd _]
 generalize hP:s.heap.push { cls:=.type "list",data:=.seq ([]:List Value).toArray }=P1
 have Ip:∀ b o,s.heap.get? b=some o->P1.get? b=some o:=fun b o e=>by rw [<- hP]; exact Heap.get?_push_of_some _ e
 have hL:P1.get? s.heap.objs.size=some { cls:=.type "list",data:=.seq #[] }:=by rw [<- hP]; exact Heap.get?_push_size _ rfl
 have FZ:P1.objs.size=s.heap.objs.size + 1:=by rw [<- hP]; exact Heap.size_push _ _
 show wpAny _ A.in1 (Builtin.List.listExtendWith (.ref s.heap.objs.size) (.ref a) (.ref s.heap.objs.size)) _ _ { s with heap:=P1 }
 have key:wpAny (model prog w) A.in1 (Builtin.List.listExtendWith (.ref s.heap.objs.size) (.ref a) (.ref s.heap.objs.size))
   (fun fin s'=>match fin with
    | .done f=>False
    | .again c'=>c'.quiet=true /\ codeAny (model prog w) A c' (fun q s'=>∃ (h':Heap) (tk:Nat) (d':Drawn) (acc:Array Value) (c':Nat) (ms:List Int),q=.ok (.ret (.ref s.heap.objs.size)) /\ s'={ s with heap:=h',toks:=tk,drawn:=d' } /\
      (∀ b o,s.heap.get? b=some o->h'.get? b=some o) /\ h'.get? s.heap.objs.size=some { cls:=.type "list",dict:=none,data:=.seq acc c',slots:=#[] } /\ IntsAre acc.toList ms /\ ms.Perm ns) s') (fun _ _=>False) { s with heap:=P1 }:=by
  unfold Builtin.List.listExtendWith
  have LM:=Yt.at (h':=P1) fun o e=>Ip a o e
  obtain ⟨o1,gQ,Qb,C1⟩:=id LM
  refine wpAny_bind (wpAny_typeOf (T:="set") ⟨o1,gQ,Qb.1⟩ ?_)
  have q1:Builtin.List.listSameRef (.ref s.heap.objs.size) (.ref a)=false:=by simp [Builtin.List.listSameRef,Nat.ne_of_gt fR]
  have q2:(Value.type "set" == Value.type "list")=false:=by decide
  have q3:(Value.type "set" == Value.type "tuple")=false:=by decide
  simp only [q1,q2,q3,Bool.or_false,Bool.false_eq_true,if_false]
  refine wpAny_bind (C0 (s:={ s with heap:=P1 }) LM h5 h7 h6 hz fun I fp ord St Nb d1 hp hW W0 kp hI Qc=>?_)
  replace kp:∀ b o,P1.get? b=some o->Nb.get? b=some o:=kp
  replace hI:P1.objs.size<=I:=hI
  replace Qc:∀ b∈fp,b=a \/ P1.objs.size<=b:=Qc
  have J9:s.heap.objs.size∉fp:=fun z=>by
   rcases Qc _ z with e | e
   ·exact Nat.lt_irrefl _ (e ▸ fR)
   ·rw [FZ] at e; exact Nat.not_succ_le_self _ e
  have hSI:s.heap.objs.size≠I:=fun z=>by rw [<- z,FZ] at hI; exact Nat.not_succ_le_self _ hI
  obtain ⟨o2,nq,hex2,_⟩:=LM.at (h':=Nb) fun o e=>kp a o e
  obtain ⟨i0,LN⟩:=nN h2 hp
  have J7:ord.length<=sizeLine:=by rw [hp.length_eq]; simpa using hz
  have run:∀ (g:Heap) (c0:Nat),St 0 g->(∀ b o,b≠s.heap.objs.size->Nb.get? b=some o->g.get? b=some o)->g.get? s.heap.objs.size=some { cls:=.type "list",data:=.seq #[] c0 }->
    codeAny (model prog w) A (.builtin "list.extend.loop" ⟨[.ref s.heap.objs.size,.ref I,.ref s.heap.objs.size],[]⟩) (fun q s'=>∃ (h':Heap) (tk:Nat) (d':Drawn) (acc:Array Value) (c':Nat) (ms:List Int),q=.ok (.ret (.ref s.heap.objs.size)) /\ s'={ s with heap:=h',toks:=tk,drawn:=d' } /\
     (∀ b o,s.heap.get? b=some o->h'.get? b=some o) /\ h'.get? s.heap.objs.size=some { cls:=.type "list",dict:=none,data:=.seq acc c',slots:=#[] } /\ IntsAre acc.toList ms /\ ms.Perm ns) { s with heap:=g,drawn:=d1 }:=by
   intro g c0 st k hg
   refine codeAny_extend_loopS (hW A.in1 hh).toS J7 _ J9 _ ord.length 0 _ #[] c0 rfl (Nat.zero_le _) st hg (ItemsOf.nil _) fun s' rh c' mv Bd lN=>?_
   obtain ⟨hx,gx,dx,tx,ox⟩:=s'
   have eg:gx=s.gens:=mv.gens
   have ed:dx=d1:=mv.drawn
   have eo:ox=s.os:=mv.os
   subst eg ed eo
   have Qd:rh.toList=ord:=by
    refine List.ext_getElem? fun j=>?_
    by_cases hj:j < rh.size
    ·have q:=lN.2 j _ (Array.getElem?_eq_getElem hj)
     rw [q]; simp [hj]
    ·rw [List.getElem?_eq_none (by simp; omega),List.getElem?_eq_none (by rw [<- lN.1]; omega)]
   refine ⟨hx,tx,dx,rh,c',i0,rfl,rfl,fun b o e=>?_,Bd,by rw [Qd]; exact LN.1,LN.2⟩
   have hb:=Heap.lt_size e
   refine mv.heap b o ?_ (k b o (Nat.ne_of_lt hb) (kp b o (Ip b o e)))
   simp only [List.mem_cons,List.not_mem_nil,or_false,not_or]
   exact ⟨Nat.ne_of_lt hb,Nat.ne_of_lt (Nat.lt_of_lt_of_le hb (Nat.le_trans (by rw [FZ]; exact Nat.le_succ _) hI))⟩
  have Qe:Nb.get? s.heap.objs.size=some { cls:=.type "list",data:=.seq #[] }:=kp _ _ hL
  refine wpAny_bind (wpAny_holding (C2 ⟨o2,nq,hex2.1⟩ ?_))
  refine wpAny_ite_split (fun _=>?_) (fun _=>wpAny_pure ⟨plainId_quiet PySem.F.plain_extend_loop _,run Nb 0 W0 (fun b o _ e=>e) Qe⟩)
  refine wpAny_bind (wpAny_rule (wpAny_bind ?_))
  show wpAny _ _ (updateSeq s.heap.objs.size (·.push .none) >>= fun _=>updateSeq s.heap.objs.size (·.pop)) _ _ _
  refine wpAny_bind (wpAny_updateSeq Qe rfl ?_)
  have W1:=Heap.get?_update_self (Obj.mapSeq (·.push Value.none)) Qe rfl
  refine wpAny_updateSeq (hz:=by seq_fits) W1 rfl ?_
  have Yu:=Heap.get?_update_self (Obj.mapSeq (·.pop)) W1 rfl
  refine wpAny_pure ⟨plainId_quiet PySem.F.plain_extend_loop _,run _ _ ((hW A.in1 hh).frame 0 _ _ W0 fun b hb o e=>?_) (fun b o hb e=>?_) Yu⟩
  ·have W2:b≠s.heap.objs.size:=fun z=>J9 (z ▸ hb)
   exact (Heap.get?_update_other _ _ (Ne.symm W2)).trans ((Heap.get?_update_other _ _ (Ne.symm W2)).trans e)
  ·exact (Heap.get?_update_other _ _ (Ne.symm hb)).trans ((Heap.get?_update_other _ _ (Ne.symm hb)).trans e)
 refine wpAny_mono key (fun fin s' x=>?_) fun _ _ z=>z.elim
 cases fin with
 | done f=>exact x.elim
 | again c₁=>
   refine ⟨x.1,codeAny_mono x.2 fun q lE y=>?_⟩
   obtain ⟨h',tk,d',acc,c',ms,rfl,rfl,hk,Bd,i1,p1⟩:=y
   show wpAny _ A (load s.heap.objs.size >>= _) _ _ _
   exact wpAny_bind (wpAny_load Bd (wpAny_pure (h h' tk d' acc.toList ms hk (Heap.lt_size Bd) i1 p1)))
theorem oP {Q:Value->Shared->Prop} (hh:A.handled=none) (hS:jc prog w s.heap a (kb w) ns) (uQ:ns.length < 64)
  (h:∀ (D:Addr) (h':Heap) (tk:Nat) (d':Drawn) (out:Array Value) (n:Nat) (ms:List Int),s.heap.objs.size<=D->(∀ b o,s.heap.get? b=some o->h'.get? b=some o)->h'.get? D=some (seqObj "list" out n)->IntsAre out.toList ms->ms.Perm ns->ms.Pairwise (·<=·)->Q (.ref D) { s with heap:=h',toks:=tk,drawn:=d' }):
  wpAny (model prog w) A (call (.builtin "sorted") [.ref a]) Q E s:=by
 refine call_function_entry kind_sorted plain_sorted entry_sorted (args_sorted1 _) ?_
 unfold Builtin.«sorted»
 refine wpAny_bind (m:=checkCount "sorted" 1 1 _) (wpAny_pure ?_)
 refine wpAny_bind (vJ (A:=A.in1) hh hS fun h' tk d' vs ms hk Yv hi hp=>?_)
 have hl:vs.length=ns.length:=by rw [<- hp.length_eq,(dE.mp hi).2,List.length_map]
 have Yw:vs.length<=sizeLine:=by rw [sizeLine_eq]; omega
 refine wpAny_bind (wpAny_newList ?_ Yw)
 have HL:(h'.push (seqObj "list" vs.toArray 0)).get? h'.objs.size=some (seqObj "list" vs.toArray 0):=Heap.get?_push_size _ rfl
 refine wpAny_bind (wpAny_holding (wpAny_call_entry slot_list_sort ⟨_,HL,rfl⟩ entry_list_sort (list_sort_tree HL hi (by omega) fun out Yx a1 a2 a3=>⟨_,rfl,?_⟩) (args_list_sort _)))
 obtain ⟨en,Yy⟩:=sortedHeap_at (out:=out) HL
 refine wpAny_pure ⟨_,rfl,h h'.objs.size _ tk d' out en Yx (Nat.le_of_lt Yv) (fun b o e=>?_) Yy a1 (a2.trans hp) a3⟩
 have hb:=Heap.lt_size (hk b o e)
 rw [sortedHeap_old (Nat.ne_of_lt hb) (by rw [size_push']; exact Nat.lt_succ_of_lt hb)]
 exact Heap.get?_push_of_some _ (hk b o e)
end
end LS
namespace L2
open PySem PySem.Spec PyProof.Rows LS
def ins (x:Int):List Int->List Int
 | []=>[x]
 | y :: l=>if x < y then x :: y :: l else if x=y then y :: l else y :: ins x l
def ss:List Int->List Int
 | []=>[]
 | x :: l=>ins x (ss l)
set_option tactic.hygienic true in
theorem tw {x z:Int}:∀ {l:List Int},z∈ins x l↔z=x \/ z∈l
 | []=>by simp [ins]
 | y :: l=>by
   rw [ins]
   split
   ·simp
   ·split
    ·rename_i h; subst h; simp
    ·simp only [List.mem_cons,tw]
     constructor
     ·rintro (h | h | h)
      ·exact .inr (.inl h)
      ·exact .inl h
      ·exact .inr (.inr h)
     ·rintro (h | h | h)
      ·exact .inr (.inl h)
      ·exact .inl h
      ·exact .inr (.inr h)
set_option tactic.hygienic true in
theorem pX {x:Int}:∀ {l:List Int},l.Pairwise (· < ·)->(ins x l).Pairwise (· < ·)
 | [],_=>by simp [ins]
 | y :: l,h=>by
   rw [List.pairwise_cons] at h
   rw [ins]
   split
   ·rename_i BQ
    refine List.pairwise_cons.mpr ⟨fun z hz=>?_,List.pairwise_cons.mpr h⟩
    rcases List.mem_cons.mp hz with e | e
    ·rw [e]; exact BQ
    ·exact Int.lt_trans BQ (h.1 z e)
   ·split
    ·exact List.pairwise_cons.mpr h
    ·refine List.pairwise_cons.mpr ⟨fun z hz=>?_,pX h.2⟩
     rcases tw.mp hz with e | e
     ·rw [e]; omega
     ·exact h.1 z e
theorem yc {z:Int}:∀ {l:List Int},z∈ss l↔z∈l
 | []=>by simp [ss]
 | x :: l=>by rw [ss,tw,yc,List.mem_cons]
theorem jd:∀ {l:List Int},(ss l).Pairwise (· < ·)
 | []=>.nil
 | _ :: _=>pX jd
theorem pY:∀ {l m:List Int},l.Pairwise (· < ·)->m.Pairwise (· < ·)->(∀ z,z∈l↔z∈m)->l=m
 | [],[],_,_,_=>rfl
 | [],y :: m,_,_,h=>absurd ((h y).mpr List.mem_cons_self) (by simp)
 | x :: l,[],_,_,h=>absurd ((h x).mp List.mem_cons_self) (by simp)
 | x :: l,y :: m,hl,hm,h=>by
   rw [List.pairwise_cons] at hl hm
   have e:x=y:=by
    rcases List.mem_cons.mp ((h x).mp List.mem_cons_self) with a | a
    ·exact a
    ·rcases List.mem_cons.mp ((h y).mpr List.mem_cons_self) with b | b
     ·exact b.symm
     ·have:=hl.1 y b
      have:=hm.1 x a
      omega
   subst e
   rw [pY hl.2 hm.2 fun z=>⟨fun hz=>?_,fun hz=>?_⟩]
   ·rcases List.mem_cons.mp ((h z).mp (List.mem_cons_of_mem _ hz)) with a | a
    ·have:=hl.1 z hz; omega
    ·exact a
   ·rcases List.mem_cons.mp ((h z).mpr (List.mem_cons_of_mem _ hz)) with a | a
    ·have:=hm.1 z hz; omega
    ·exact a
theorem Iq {l m:List Int} (hm:m.Pairwise (· < ·)) (h:∀ z,z∈m↔z∈l):ss l=m:=pY jd hm fun z=>by rw [yc,h]
section
variable {X:Cx} {pins:List (Addr×Obj)} {σ:St} {H:Hp} {s:Shared}
theorem Inv.drew (I:Inv X pins σ H s) (d':Drawn):Inv X pins σ H { s with drawn:=d' }:=
 I.step (d':=d') (g':=s.gens) (t':=s.toks) (ch:=[]) (fun b hb=>by simp at hb) (fun _ _ _ _ _ e _=>e) (fun b o _ _ _ e _=>⟨o.slots,e⟩) (fun _ _ _ _ n=>n) (fun b o _ e=>⟨o,e⟩) (fun _ _ e=>e) (fun _ _ _ e=>e)
  (fun b ps e=>⟨#[],by rw [e]; simp⟩) (fun _ h=>h) I.cg I.bare
def F8 (P:Program) (w:World) (a:Addr) (ns:List Int):HO:=.ext fun h=>jc P w h a (kb w) ns
def Qf (P:Program) (w:World) (K:PySem.W.Frag):List V->Hp->VK->Prop:=fun xs H Q=>∃ (p:Addr) (ms:List Int),xs=[.ref p] /\ (iC K H p (ms.map V.int) \/ jn K H p (ms.map V.int)) /\ ms.length + 1 < scanBound /\
 ∀ (l:Addr) (ns:List Int),H l=none->(∀ x,x∈ns↔x∈ms)->ns.length<=ms.length->Q (.ref l) (upd H l (F8 P w l ns))
theorem Bg (hc:X.calm=true):eX X (.type "set") (Qf X.prog X.w X.K):=by
 intro pins s σ H xs us Q I r h
 obtain ⟨p,ms,rfl,hq,hb,q⟩:=h
 obtain ⟨u,rfl,rx⟩:=vals1 r
 cases rx
 have hh:=I.ok.hd hc
 have fin:∀ (h':Heap) (tk:Nat) (ns:List Int),jc X.prog X.w h' s.heap.objs.size (kb X.w) ns->(∀ x,x∈ns↔x∈ms)->ns.length<=ms.length->(∀ b o,s.heap.get? b=some o->h'.get? b=some o)->EP X pins σ Q (.ref s.heap.objs.size) { s with heap:=h',toks:=tk }:=fun h' tk ns S m l k=>
  ⟨.ref s.heap.objs.size,_,I.laid (o:=F8 X.prog X.w s.heap.objs.size ns) k (Nat.le_refl _) ⟨S,(let ⟨o,_,_,_,e,_⟩:=S; ⟨o,e⟩),fun h1 h2 S1 kk=>S1.keeps kk⟩,rfl,q _ ns (I.cg.fresh (Nat.le_refl _)) m l⟩
 rcases hq with hq | hq
 ·obtain ⟨its,rv,pl,_⟩:=I.list hq
  have hi:IntsAre its ms:=intsAre_of rv
  have hl:its.length=ms.length:=by rw [(dE.mp hi).2,List.length_map]
  exact vH hh (src_list pl.isList) hi (by rw [List.size_toArray,hl]; exact hb) fin
 ·obtain ⟨its,rv,pl,_⟩:=I.tuple hq
  have hi:IntsAre its ms:=intsAre_of rv
  have hl:its.length=ms.length:=by rw [(dE.mp hi).2,List.length_map]
  exact vH hh (src_tuple (show s.heap.IsTuple p its.toArray from pl)) hi (by rw [List.size_toArray,hl]; exact hb) fin
def C3 (P:Program) (w:World):List V->Hp->VK->Prop:=fun xs H Q=>∃ (p:Addr) (ns:List Int),xs=[.ref p] /\ H p=some (F8 P w p ns) /\ ns.length < 64 /\ ∀ (l:Addr) (out:List Int),H l=none->out.Pairwise (· < ·)->(∀ x,x∈out↔x∈ns)->Q (.ref l) (upd H l (.lst (out.map V.int)))
theorem vK:∀ {vs:List Value} {ns:List Int},IntsAre vs ns->bw (ns.map V.int) vs
 | _,_,.nil=>.nil
 | _,_,.cons n t h=>.cons ⟨t,rfl⟩ (vK h)
theorem F9 {prog:Program} {w:World} {h:Heap} {a:Addr} {led:Bool} {ns:List Int} (h:jc prog w h a led ns):ns.Nodup:=by
 obtain ⟨_,_,_,_,_,_,_,_,_,z,_⟩:=h
 exact z
theorem tz (hc:X.calm=true):eX X (.builtin "sorted") (C3 X.prog X.w):=by
 intro pins s σ H xs us Q I r h
 obtain ⟨p,ns,rfl,hp,uQ,q⟩:=h
 obtain ⟨u,rfl,rx⟩:=vals1 r
 cases rx
 have hS:jc X.prog X.w s.heap p (kb X.w) ns:=(show cy X.prog X.w H s.heap p (F8 X.prog X.w p ns) from I.cg p _ hp).1
 have nd:ns.Nodup:=F9 hS
 refine oP (I.ok.hd hc) hS uQ fun D h' tk d' out n ms hD k e hi fe Nc=>?_
 have hl:ms.length=ns.length:=fe.length_eq
 have J:=(I.drew d').laid (t':=tk) (o:=.lst (ms.map V.int)) (h':=h') k hD ⟨by rw [List.length_map,sizeLine_eq]; omega,out.toList,n,vK hi,by simpa using e⟩
 refine ⟨.ref D,_,J,rfl,q D ms (I.cg.fresh hD) ?_ fun x=>fe.mem_iff⟩
 have Yz:ms.Nodup:=fe.nodup_iff.mpr nd
 refine (List.Pairwise.and Nc Yz).imp fun {a b} Ik=>?_
 have:=Ik.1
 have:=Ik.2
 omega
end
theorem Kh:bootBuiltins "set"=some (.type "set"):=by decide +kernel
theorem sf:bootBuiltins "sorted"=some (.builtin "sorted"):=by decide +kernel
def jS:List D->Option (List Int)
 | []=>some []
 | .int i :: l=>(jS l).map (i :: ·)
 | _ :: _=>none
theorem je:∀ (ns:List Int),jS (ns.map .int)=some ns
 | []=>rfl
 | n :: ns=>by rw [List.map_cons,jS,je ns]; rfl
theorem ju:∀ {l:List D} {ns:List Int},jS l=some ns->l=ns.map .int
 | [],_,h=>by cases h; rfl
 | d :: l,ns,h=>by
   cases d with
   | int i=>
     rw [jS] at h
     cases e:jS l with
     | none=>rw [e] at h; cases h
     | some m=>rw [e] at h; cases h; rw [ju e]; rfl
   | _=>cases h
def Ki:D->Option (List D)
 | .list l=>some l
 | .tuple l=>some l
 | _=>none
def Kj (g:DS->Option D):DS->Option (List D):=fun δ=>(g δ).bind fun d=>(Ki d).bind fun l=>(jS l).bind fun ns=>if ns.length < 64 then some ((ss ns).map .int) else none
theorem cv.toInts {K:PySem.W.Frag} {H:Hp}:∀ {ns:List Int} {xs:List V},cv K H xs (ns.map PyData.int)->xs=ns.map V.int
 | [],_,h=>by cases h; rfl
 | n :: ns,_,h=>by
   rw [List.map_cons] at h
   cases h with
   | cons a t=>cases a; rw [cv.toInts t]; rfl
set_option tactic.hygienic true in
theorem lO {X:Cx} {O:List Nat} {e:Expr} {ge:DS->Option D} {p1 p2 q1 q2:Pos} (h1:X.mg "sorted"=none) (h2:X.mg "set"=none) (he:PE X e (jl X.K O ge)) (hc:X.calm=true:=by rfl) (g1:Gl X "sorted":=by rfl) (g2:Gl X "set":=by rfl)
  (s1:starEach [Expr.Call (.Name "set" p2) [e] [] q2] X.env=(false,eval (Expr.Call (.Name "set" p2) [e] [] q2) X.env) :: starEach [] X.env:=by rfl) (s2:starEach [e] X.env=(false,eval e X.env) :: starEach [] X.env:=by rfl)
  (b1:(backTo q1 (starEach [] X.env)).any (·.1)=false:=by rfl) (b2:(backTo q2 (starEach [] X.env)).any (·.1)=false:=by rfl):
  PE X (.Call (.Name "sorted" p1) [.Call (.Name "set" p2) [e] [] q2] [] q1) (tN X.K O (Kj ge)):=
 (pC (tz hc) g1 h1 sf (cn (nz (Bg hc) g2 h2 Kh (cn he dz s2) (by decide) (by decide) s2 b2) dz s1) (by decide) (by decide) s1 b1).mono fun σ H Q hh=>hh.e fun U A0 δ ds R ed q=>by
  obtain ⟨d,e1,ed⟩:=bind1 ed
  obtain ⟨l,e2,ed⟩:=bind1 ed
  obtain ⟨ns,e3,ed⟩:=bind1 ed
  split at ed
  ·rename_i uQ
   cases ed
   refine ⟨U,A0,δ,d,R,e1,fun v H1 s1 hv=>?_⟩
   have row:∃ p,v=.ref p /\ (iC X.K H1 p (ns.map V.int) \/ jn X.K H1 p (ns.map V.int)):=by
    unfold Ki at e2
    split at e2
    ·cases e2
     obtain ⟨p,xs,rfl,r1,r2⟩:=hv.list
     rw [ju e3] at r2
     rw [<- r2.toInts]
     exact ⟨p,rfl,.inl r1.sq⟩
    ·cases e2
     obtain ⟨p,xs,rfl,r1,r2⟩:=hv.tuple
     rw [ju e3] at r2
     rw [<- r2.toInts]
     exact ⟨p,rfl,.inr r1⟩
    ·cases e2
   obtain ⟨p,rfl,Qg⟩:=row
   refine ⟨p,ns,rfl,Qg,by unfold scanBound; omega,fun l1 ms OC hm hle=>?_⟩
   refine ⟨l1,ms,rfl,bR,by omega,fun l2 out JB hr BP=>?_⟩
   have eo:out=ss ns:=(Iq hr fun z=>by rw [BP,hm]).symm
   subst eo
   refine q l2 _ _ (s1.trans ((cD OC _).trans (cD JB _))) (s1.free ((cD OC _).free JB)) bR (cv.ints _)
  ·cases ed
end L2
namespace L2
open PySem PySem.Spec PyProof.Rows
section
variable {prog:Program} {w:World} {A:Around} {R:Result->Shared->Prop} {s:Shared}
theorem tB {elt target iter:Expr} {ifs:List Expr} {scope:Scope} {pos:Pos} {it acc:Value} {env:Env} (I:Nat->Shared->Prop)
  (turn:∀ n s,I n s->wpAny (model prog w) A (pyNext it) (fun r bA=>match r with
   | none=>R (.ok .next) bA
   | some v=>wpAny (model prog w) A (letOwnedTupleGo target it v) (fun _ lE=>wpAny (model prog w) A (assign target env v) (fun _ nD=>
     wpAny (model prog w) A (forIn ifs true fun c r=>if r=true then do let ok <- isTrue c env (eval c env); pure (ForInStep.yield ok) else pure (ForInStep.yield r)) (fun ok yd=>
      if ok=true then wpAny (model prog w) A (eval elt env) (fun x Nd=>
       wpAny (model prog w) A (call (.builtin "list.append") [acc,x]) (fun _ Nf=>∃ m,m < n /\ I m Nf) (notedBy (model prog w) A env fun e s'=>R (.error e) s') Nd) (notedBy (model prog w) A env fun e s'=>R (.error e) s') yd
      else ∃ m,m < n /\ I m yd) (notedBy (model prog w) A env fun e s'=>R (.error e) s') nD) (notedBy (model prog w) A env fun e s'=>R (.error e) s') lE) (notedBy (model prog w) A env fun e s'=>R (.error e) s') bA) (notedBy (model prog w) A env fun e s'=>R (.error e) s') s)
  (n:Nat) (h:I n s):codeAny (model prog w) A (.compLoop (.ListComp elt [⟨target,iter,ifs,0⟩] scope pos) 0 it acc env) R s:=by
 refine codeAny_loop rfl I (fun n s hI=>?_) n h
 show wpAny _ A ((compTurn (.ListComp elt [⟨target,iter,ifs,0⟩] scope pos) 0 it acc env).onRaise (fun x=>do noteFrame x env; theTreesLotGoes x)) _ _ s
 refine wpAny_noted ?_
 rw [compTurn_list]
 refine wpAny_bind (wpAny_standAt (wpAny_bind (wpAny_mono (turn n s hI) (fun r bA nB=>?_) fun _ _ z=>z)))
 cases r with
 | none=>exact wpAny_pure nB
 | some v=>
   refine wpAny_bind (wpAny_mono nB (fun _ lE sT=>wpAny_bind (wpAny_mono sT (fun _ nD JG=>wpAny_bind (wpAny_mono JG (fun ok yd Ng=>?_) fun _ _ z=>z)) fun _ _ z=>z)) fun _ _ z=>z)
   cases ok with
   | false=>exact wpAny_pure ⟨rfl,Ng⟩
   | true=>exact wpAny_bind (wpAny_bind (wpAny_mono Ng (fun x Nd Qh=>wpAny_bind (wpAny_mono Qh (fun _ Nf Qi=>wpAny_pure (wpAny_pure ⟨rfl,Qi⟩)) fun _ _ z=>z)) fun _ _ z=>z))
end
def PF (X:Cx) (ifs:List Expr) (t:TT):Prop:=
 ∀ (pins:List (Addr×Obj)) (s:Shared) (σ:St) (H:Hp) (Q:Bool->Hp->Prop),Inv X pins σ H s->t σ H Q->
   wpAny (model X.prog X.w) X.A (forIn ifs true fun c r=>if r=true then do let ok <- isTrue c X.env (eval c X.env); pure (ForInStep.yield ok) else pure (ForInStep.yield r)) (TP X pins σ Q) X.xe s
def Qj:TT:=fun _ H Q=>Q true H
theorem Kk {X:Cx}:PF X [] Qj:=fun _ _ _ H _ I q=>wpAny_pure ⟨H,I,q⟩
theorem nP {X:Cx} {c:Expr} {t:TT} (h:PT X c t):PF X [c] t:=fun pins s σ H Q I q=>wpAny_tests_one (h pins s σ H Q I q)
section
variable {X:Cx}
structure kG (X:Cx) (scope:Scope) (xs:List Str) (ix:List Nat) (N':List Str):Prop where
 kind:scope.kind=.function
 nQ:∀ y∈scope.names,y.2≠.cell
 names:∀ y∈scope.names,y.2=.local->scope.names.lookup y.1=some .local
 free:∀ y∈scope.names,y.2=.free->X.env.kindOf y.1=some .cell \/ X.env.kindOf y.1=some .free
 only:∀ n,(X.env.scope.kind=.function)->((relabel scope X.env).names.lookup n=some .cell \/ (relabel scope X.env).names.lookup n=some .free)->(n,NameKind.free)∈scope.names
 nm:N'=xs ++ ix.map fun j=>X.N.getD j ""
 YA:∀ j∈ix,j < X.N.length /\ (X.N.getD j "",NameKind.free)∈scope.names /\ ((relabel scope X.env).names.lookup (X.N.getD j "")=some .cell \/ (relabel scope X.env).names.lookup (X.N.getD j "")=some .free)
section
variable {scope:Scope} {xs:List Str} {ix:List Nat} {N':List Str} {cl:List (Str×Addr)} {C:Addr} {s2 s3:Shared} {H2:Hp} {fp:List Addr} {pins:List (Addr×Obj)} {σ:St}
theorem C4 (S:kG X scope xs ix N') (I:Inv X pins σ H2 s2) (hC:s2.heap.objs.size<=C) (h1:∀ n c,cl.lookup n=some c->X.env.cells.lookup n=some c) (h2:∀ n,(n,NameKind.free)∈scope.names->∃ c,cl.lookup n=some c)
  (hf:∀ b∈fp,jU X pins H2 b) (Kl:∀ b∈fp,b < s2.heap.objs.size):(b7 X scope N' cl C s2 H2 fp pins).Ok where
 mod:=I.ok.mod
 kind:=by show (relabel scope X.env).kind=_; exact S.kind
 glob:=I.ok.glob
 blt:=I.ok.blt
 above:=hC
 inj:=fun a b c e1 e2=>I.ok.inj a b c (h1 _ _ e1) (h1 _ _ e2)
 has:=fun a h=>h2 a (S.only a I.ok.kind h)
 IQ:=fun a c h=>by cases h
 hd:=I.ok.hd
 frames:=I.ok.frames
 L9:=.inl rfl
 OY:=fun b hb=>⟨Nat.ne_of_lt (Nat.lt_of_lt_of_le (Kl b hb) hC),fun a c e=>(hf b hb).2.2.2.2.1 a c (h1 _ _ e)⟩
 bs:=I.bs
 zl:=Nat.le_trans I.ok.zl I.sz
 AD:=fun b o e hb=>by
  rcases (hf b hb).2.2.2.1 with z | z
  ·exact I.ok.AD b o e z
  ·have:=(I.ok.bs b o e).1
   exact absurd (Nat.lt_of_lt_of_le (Heap.lt_size this) z) (Nat.lt_irrefl _)
 BU:=fun b hb z=>by
  rcases List.mem_cons.mp (I.lC b z) with e | e
  ·exact (hf b hb).2.1 e
  ·exact (hf b hb).2.2.1 e
 mC:=I.stack
 HI:=I.sJ
theorem Bh (S:kG X scope xs ix N') (I:Inv X pins σ H2 s2) (hC:s2.heap.objs.size<=C) (h1:∀ n c,cl.lookup n=some c->X.env.cells.lookup n=some c) (h2:∀ n,(n,NameKind.free)∈scope.names->∃ c,cl.lookup n=some c)
  (hf:∀ b∈fp,jU X pins H2 b) (Kl:∀ b∈fp,b < s2.heap.objs.size) (Nh:s3.os=s2.os) (hg:s3.gens=s2.gens) (k:∀ b o,s2.heap.get? b=some o->s3.heap.get? b=some o) {m:Str->Option Value} (hn:s3.heap.Ns C m):
  Inv (b7 X scope N' cl C s2 H2 fp pins) [] (List.replicate xs.length none ++ mM ix σ) H2 s3 where
 ok:=C4 S I hC h1 h2 hf Kl
 os:=Nh
 bare:=by rw [hg]; exact I.bare
 base:=⟨fun b o e _ _ _=>k b o e,fun b o e _ _ _=>⟨o.slots,k b o e⟩,fun b o e n _=>n,fun b o e _=>⟨o,k b o e⟩,fun _ _ e=>e,fun _ _ _ e=>e,fun b ps e=>⟨#[],by rw [Array.append_empty]; exact e⟩⟩
 loc:=by
  refine ⟨m,hn,fun i y v e1 e2 e3=>?_⟩
  by_cases hi:i < xs.length
  ·rw [List.getElem?_append_left (by simpa using hi),List.getElem?_replicate,if_pos hi] at e2
   cases e2
  ·have Ir:(mM ix σ)[i - xs.length]?=some (some v):=by rw [List.getElem?_append_right (by simp; omega)] at e2; simpa using e2
   obtain ⟨j,ej,es⟩:=Cw Ir
   have LP:N'[i]?=some y:=e1
   rw [S.nm,List.getElem?_append_right (by omega),List.getElem?_map,ej] at LP
   have ey:X.N.getD j ""=y:=Option.some.inj LP
   obtain ⟨hj,mV,hk⟩:=S.YA j (List.mem_of_getElem? ej)
   obtain ⟨m0,hn0,YB⟩:=I.loc
   have eN:X.N[j]?=some y:=by rw [<- ey,List.getD_eq_getElem?_getD,List.getElem?_eq_getElem hj]; rfl
   have kd:=S.free _ mV rfl
   have hv:L8 X.env.scope y:=by
    rw [<- ey]
    rcases kd with z | z
    ·exact .inr (.inl z)
    ·exact .inr (.inr z)
   obtain ⟨u,r,l⟩:=YB j y v eN es hv
   refine ⟨u,r,.inr ?_⟩
   rcases l with ⟨q,_⟩ | ⟨_,c,ec,z⟩
   ·have Qk:X.env.kindOf y=some .cell \/ X.env.kindOf y=some .free:=by rw [<- ey]; exact kd
    rcases Qk with w | w <;> rw [q] at w <;> cases w
   ·obtain ⟨c',e'⟩:=h2 _ mV
    rw [ey] at e'
    have:=h1 _ _ e'
    rw [ec] at this; cases this
    obtain ⟨o,ho,hd⟩:=z
    exact ⟨by rw [<- ey]; exact hk,c,e',o,k c o ho,hd⟩
 cell:=fun a c e=>by
  obtain ⟨v,o,ho,hd⟩:=I.cell a c (h1 _ _ e)
  exact ⟨v,o,k c o ho,hd⟩
 free:=I.cg.fresh hC
 jM:=fun a c e=>I.jM a c (h1 _ _ e)
 pin:=fun p hp=>by
  have YC:p∈X.pn ++ pins:=by
   rcases List.mem_append.mp hp with z | z
   ·exact z
   ·simp at z
  obtain ⟨e,n,ne,nf,d⟩:=I.pin p YC
  refine ⟨k _ _ e,n,Nat.ne_of_lt (Nat.lt_of_lt_of_le (Heap.lt_size e) hC),fun z=>?_,d⟩
  rcases List.mem_cons.mp (I.lC _ z) with q | q
  ·exact ne q
  ·exact nf q
 cg:=I.cg.kept k
 len:=by
  show (List.replicate xs.length none ++ mM ix σ).length=N'.length
  rw [S.nm]
  unfold mM
  simp
end
def oZ (J:It) (k:Nat) (ix:List Nat) (g:TG) (tc:TT) (te:TE) (σ:St) (H:Hp) (Q:VK):Prop:=∃ W:Nat->Nat->List V->St->Hp->Prop,(∃ m,W 0 m [] (List.replicate k none ++ mM ix σ) H) /\ ∀ i m ys τ H,W i m ys τ H->ys.length<=sizeLine /\
 ((J.stop i H /\ ∀ p,H p=none->Q (.ref p) (upd H p (.lst ys))) \/ (J.go i H /\ ys.length < sizeLine /\ ∀ v H',J.Mm i H v H'->g v τ H' fun ye H2=>tc ye H2 fun b H3=>
   if b=true then te ye H3 fun y H4=>∃ m',m' < m /\ W (i + 1) m' (ys ++ [y]) ye H4 else ∃ m',m' < m /\ W (i + 1) m' ys ye H3))
def yf (wi:TI) (k:Nat) (ix:List Nat) (g:TG) (tc:TT) (te:TE):TE:=fun σ H Q=>wi σ H fun J H1=>oZ J k ix g tc te σ H1 Q
section
variable {scope:Scope} {xs:List Str} {ix:List Nat} {N':List Str} {elt iter tg:Expr} {ifs:List Expr} {pos:Pos} {wi:TI} {te:TE} {tc:TT} {g:TG}
structure W3 (X':Cx) (D:Addr) (fp:List Addr) (tn:Nat->Heap->Prop) (W:Nat->Nat->List V->St->Hp->Prop) (n:Nat) (s':Shared) (i:Nat) (ys:List V) (its:List Value) (k:Nat) (cZ:St) (H':Hp):Prop where
 I:Inv X' [(D,zA its k)] cZ H' s'
 st:tn i s'.heap
 fr:∀ b∈fp,H' b=none
 w:W i n ys cZ H'
 rv:bw ys its
def Ni (X':Cx) (D:Addr) (fp:List Addr) (tn:Nat->Heap->Prop) (W:Nat->Nat->List V->St->Hp->Prop) (n:Nat) (s':Shared):Prop:=∃ i ys its k cZ H',W3 X' D fp tn W n s' i ys its k cZ H'
theorem Km {X':Cx} {D:Addr} {fp:List Addr} {tn:Nat->Heap->Prop} {W:Nat->Nat->List V->St->Hp->Prop} {n:Nat} {s':Shared} {P:Prop} (h:Ni X' D fp tn W n s') (k:∀ i ys its k cZ H',W3 X' D fp tn W n s' i ys its k cZ H'->P):P:=by
 obtain ⟨_,_,_,_,_,_,t⟩:=h
 exact k _ _ _ _ _ _ t
theorem Nj {X:Cx} {pins:List (Addr×Obj)} {σ:St} {tg:Expr} {R:It->Hp->Prop} {EV:Value} {s2:Shared} {P:Value->Prop} (h:Ot X pins σ tg R EV s2) (k:∀ it fp tn J H',Inv X pins σ H' s2->Turn X.prog X.w X.K tg J fp it tn->tn 0 s2.heap->(∀ b∈fp,jU X pins H' b)->R J H'->P (.ref it)):P EV:=by
 obtain ⟨it,fp,tn,J,H',rfl,a,b,c,d,e⟩:=h
 exact k it fp tn J H' a b c d e
theorem sg (S:kG X scope xs ix N') (hc:X.calm=true) (hg:∀ cl C s2 H2 fp pins,PG (b7 X scope N' cl C s2 H2 fp pins) tg g) (hf:∀ cl C s2 H2 fp pins,PF (b7 X scope N' cl C s2 H2 fp pins) ifs tc) (pZ:∀ cl C s2 H2 fp pins,PE (b7 X scope N' cl C s2 H2 fp pins) elt te)
  {pins:List (Addr×Obj)} {σ:St} {s2:Shared} {Q:VK} {EV:Value} (h:Ot X pins σ tg (fun J H1=>oZ J xs.length ix g tc te σ H1 Q) EV s2) {cl:List (Str×Addr)} (h1:∀ n c,cl.lookup n=some c->X.env.cells.lookup n=some c) (h2:∀ n,(n,NameKind.free)∈scope.names->∃ c,cl.lookup n=some c)
  {use:Option (Value->Sem Unit)} {QQ:Value->Shared->Prop}
  (fin:∀ (D C:Addr) (H':Hp) (s1:Shared) (m:Str->Option Value),s1.heap.Ns C m->H' C=none->X.fS.heap.objs.size<=C->C≠X.env.locals->(∀ a c,X.env.cells.lookup a=some c->c≠C)->(∀ p∈X.pn ++ pins,p.1≠C)->(∀ h',Heap.SameBut C s1.heap h'->Inv X pins σ H' { s1 with heap:=h' })->Q (.ref D) H'->
   compPost (model X.prog X.w) X.A X.xe use QQ (.ref D) C (.ok .next) s1):
  wpAny (model X.prog X.w) X.A (newList []) (fun acc nD=>wpAny (model X.prog X.w) X.A (newFunctionEnv scope X.env.globals cl [] X.env.qual none .none (some X.env)) (fun C5 yd=>
   codeAny (model X.prog X.w) X.A (.compStart (.ListComp elt [⟨tg,iter,ifs,0⟩] scope pos) 0 EV acc { C5 with scope:=relabel scope X.env }) (compPost (model X.prog X.w) X.A X.xe use QQ acc C5.locals) yd) X.xe nD) X.xe s2:=by
 refine Nj (P:=fun EV=>wpAny (model X.prog X.w) X.A (newList []) (fun acc nD=>wpAny (model X.prog X.w) X.A (newFunctionEnv scope X.env.globals cl [] X.env.qual none .none (some X.env)) (fun C5 yd=>
   codeAny (model X.prog X.w) X.A (.compStart (.ListComp elt [⟨tg,iter,ifs,0⟩] scope pos) 0 EV acc { C5 with scope:=relabel scope X.env }) (compPost (model X.prog X.w) X.A X.xe use QQ acc C5.locals) yd) X.xe nD) X.xe s2) h fun it fp tn J H1 I2 T cM f2 hR=>?_
 clear h
 obtain ⟨W,⟨m0,w0⟩,turn⟩:=hR
 have Kl:∀ b∈fp,b < s2.heap.objs.size:=fun b hb=>by
  obtain ⟨o,e,_⟩:=T.obj _ _ cM b hb
  exact Heap.lt_size e
 refine wpAny_newObj_type (wpAny_newFunctionEnv S.nQ (by intro y hy; simp at hy) (fun nB yg tD=>?_) S.kind)
 dsimp only at yg tD ⊢
 generalize Nk:s2.heap.push { cls:=.type "list",dict:=none,data:=.seq ([]:List Value).toArray }=P2 at yg tD ⊢
 have hC:P2.objs.size=s2.heap.objs.size + 1:=by rw [<- Nk,Heap.size_push]
 have HZ:s2.heap.objs.size≠P2.objs.size:=by rw [hC]; exact Nat.ne_of_lt (Nat.lt_succ_self _)
 have yh:s2.heap.objs.size<=P2.objs.size:=by rw [hC]; exact Nat.le_succ _
 have below:∀ b,b < s2.heap.objs.size->b≠P2.objs.size:=fun b hb=>by rw [hC]; exact Nat.ne_of_lt (Nat.lt_succ_of_lt hb)
 have old:∀ b o,s2.heap.get? b=some o->nB.get? b=some o:=fun b o e=>tD.extBut b o (below b (Heap.lt_size e)) (Heap.get?_push_of_some _ (Nk ▸ Heap.get?_push_of_some _ e))
 have lN:nB.get? s2.heap.objs.size=some (zA [] 0):=tD.extBut _ _ HZ (Heap.get?_push_of_some _ (Nk ▸ Heap.get?_push_size _ rfl))
 generalize P2.objs.size=C at *
 generalize C6:s2.heap.objs.size=D at *
 have W4:∀ p∈X.pn ++ pins,p.1≠D /\ p.1≠C:=fun p hp=>by
  have:=Heap.lt_size (I2.pin p hp).1
  rw [C6] at this
  exact ⟨Nat.ne_of_lt this,Nat.ne_of_lt (Nat.lt_of_lt_of_le this yh)⟩
 have Ql:D∉fp:=fun hb=>Nat.lt_irrefl _ (Kl D hb)
 have YD:C∉fp:=fun hb=>absurd (Nat.lt_of_lt_of_le (Kl C hb) yh) (Nat.lt_irrefl _)
 have Iu:∀ a c,X.env.cells.lookup a=some c->c≠D /\ c≠C:=fun a c e=>by
  obtain ⟨v,q⟩:=I2.cell a c e
  have:=q.lt
  rw [C6] at this
  exact ⟨Nat.ne_of_lt this,Nat.ne_of_lt (Nat.lt_of_lt_of_le this yh)⟩
 have Nl:X.env.locals < D:=by have:=I2.lt; rw [C6] at this; exact this
 have YE:X.fS.heap.objs.size<=D:=by rw [<- C6]; exact I2.sz
 have I3:=Bh (s3:={ s2 with heap:=nB,toks:=s2.toks + ([]:List (Str×Value)).length }) S I2 (by rw [C6]; exact yh) h1 h2 f2 (by rw [C6]; exact Kl) rfl rfl old yg
 have xy:∀ {H':Hp} {pp:List (Addr×Obj)},(∀ p∈pp,p.1∉fp)->(∀ b∈fp,H' b=none)->∀ b∈fp,jU (b7 X scope N' cl C s2 H1 fp pins) pp H' b:=fun {H' pp} Nm hn b hb=>by
  obtain ⟨f0,f1,f3,f4,f5,f6⟩:=f2 b hb
  refine ⟨hn b hb,fun z=>YD (by rw [<- show b=C from z]; exact hb),fun z=>?_,.inl hb,fun a c e=>f5 a c (h1 _ _ e),fun p hp=>?_⟩
  ·rcases List.mem_cons.mp (I2.lC b z) with q | q
   ·exact f1 q
   ·exact f3 q
  ·rcases List.mem_append.mp hp with q | q
   ·exact f6 p q
   ·intro z; exact Nm p q (by rw [z]; exact hb)
 have W5:∀ b,D<=b->b∉lj X.stack:=fun b hb z=>by
  rcases List.mem_cons.mp (I2.lC b z) with q | q
  ·rw [q] at hb; exact absurd (Nat.lt_of_lt_of_le Nl hb) (Nat.lt_irrefl _)
  ·exact I2.Ma (by rw [C6]; exact hb) q
 have loop:∀ nD:Shared,nD={ s2 with heap:=nB,toks:=s2.toks + ([]:List (Str×Value)).length }->
   codeAny (model X.prog X.w) X.A (.compLoop (.ListComp elt [⟨tg,iter,ifs,0⟩] scope pos) 0 (.ref it) (.ref D) (compEnvC scope cl C X.env)) (compPost (model X.prog X.w) X.A X.xe use QQ (.ref D) C) nD:=by
  rintro nD rfl
  refine tB (Ni (b7 X scope N' cl C s2 H1 fp pins) D fp tn W) ?_ m0
   ⟨0,[],[],0,_,H1,?_,T.keep _ _ _ cM (fun b hb o e=>old b o e),fun b hb=>(f2 b hb).1,w0,.nil⟩
  ·refine fun n s' z=>Km z fun i ys its k cZ H' t=>?_
   have I:=t.I
   have st:=t.st
   have fr:=t.fr
   have rv:=t.rv
   obtain ⟨hz,w⟩:=turn i n ys cZ H' t.w
   have pD:=I.pin (D,zA its k) (List.mem_append_right _ List.mem_cons_self)
   have Nm:∀ p∈[(D,zA its k)],p.1∉fp:=fun p hp=>by
    have e:p=(D,zA its k):=by simpa using hp
    rw [e]; exact Ql
   rcases w with ⟨stop,q⟩ | ⟨go,hz',step⟩
   ·refine wpAny_mono (T.done (b7 X scope N' cl C s2 H1 fp pins) rfl rfl rfl hc i _ s' _ H' (fun _ _=>False) I (xy Nm fr) st stop) (fun r s1 hr=>?_) fun _ _ z=>z.elim
    obtain ⟨rfl,I1⟩:=hr
    obtain ⟨m,hn,_⟩:=I1.loc
    have p1:=I1.pin (D,zA its k) (List.mem_append_right _ List.mem_cons_self)
    have fC:H' C=none:=I1.free
    refine fin D C (upd H' D (.lst ys)) s1 m hn (by rw [aR (Ne.symm HZ)]; exact fC) (Nat.le_trans YE yh) (Nat.ne_of_gt (Nat.lt_of_lt_of_le Nl yh)) (fun a c e=>(Iu a c e).2) (fun p hp=>(W4 p hp).2) (fun h' hs=>?_) (q D p1.2.1)
    exact AU (N':=N') I2 (by rw [C6]; exact yh) (by rw [C6]; exact Nat.le_refl _) f2 I1 rv hz hs HZ
   ·refine wpAny_mono (T.item (b7 X scope N' cl C s2 H1 fp pins) rfl rfl rfl hc i _ s' _ H' (fun _ _=>False) I (xy Nm fr) st go) (fun r s4 hr=>?_) fun _ _ z=>z.elim
    obtain ⟨u,rfl,h4⟩:=hr
    refine wpAny_mono h4 (fun _ s5 h5=>?_) fun _ _ z=>z.elim
    obtain ⟨v,H5,I5,r5,y5,Fk,Pc⟩:=h5
    have Pd:=I5.pinned (xy Nm Pc) (T.obj _ _ Fk)
    refine wpAny_mono (hg cl C s2 H1 fp pins _ s5 cZ H5 v u _ Pd r5 (step v H5 y5)) (fun _ s6 h6=>?_) fun _ _ z=>z.elim
    obtain ⟨ye,H6,I6,q6⟩:=h6
    have gone:∀ {τ:St} {H9:Hp} {s9:Shared},Inv (b7 X scope N' cl C s2 H1 fp pins) ([(D,zA its k)] ++ lD fp s5.heap) τ H9 s9->tn (i + 1) s9.heap /\ ∀ b∈fp,H9 b=none:=fun {τ H9 s9} I9=>
     ⟨T.keep _ _ _ Fk fun b hb o e=>(I9.pin (b,o) (List.mem_append_right _ (List.mem_append_right _ (fj hb e)))).1,fun b hb=>by
      obtain ⟨o,e,d⟩:=T.obj _ _ Fk b hb
      exact (I9.pin (b,o) (List.mem_append_right _ (List.mem_append_right _ (fj hb e)))).2.1⟩
    refine wpAny_mono (hf cl C s2 H1 fp pins _ s6 ye H6 _ I6 q6) (fun ok YF YG=>?_) fun _ _ z=>z.elim
    obtain ⟨W6,OD,OE⟩:=YG
    cases ok with
    | false=>
      rw [if_neg Bool.false_ne_true] at OE ⊢
      obtain ⟨m',Qm,w7⟩:=OE
      obtain ⟨g1,g2⟩:=gone OD
      exact ⟨m',Qm,i + 1,ys,its,k,ye,W6,OD.kz fun p hp=>OD.pin p (List.mem_append_right _ (List.mem_append_left _ hp)),g1,g2,w7,rv⟩
    | true=>
    rw [if_pos rfl] at OE ⊢
    refine wpAny_mono (pZ cl C s2 H1 fp pins _ YF ye W6 _ OD OE) (fun y s7 h7=>?_) fun _ _ z=>z.elim
    obtain ⟨yv,H7,I7,r7,m',Qm,w7⟩:=h7
    have p7:=I7.pin (D,zA its k) (List.mem_append_right _ (List.mem_append_left _ List.mem_cons_self))
    have hl:=rv.length
    refine call_meets F.slot_list_append ⟨_,p7.1,rfl⟩ F.entry_list_append (F.args_list_append_2 _ _) (PySem.list_append D its.toArray k y (by rw [List.size_toArray]; omega)) ⟨p7.1,?_⟩
    have q:=PySem.IsL.update p7.1 (·.push y)
    have Iv:∀ b o,b≠D->s7.heap.get? b=some o->(s7.heap.update D (Obj.mapSeq (·.push y))).get? b=some o:=fun b o hb e=>(Heap.get?_update_other s7.heap _ (Ne.symm hb)).trans e
    have I8:Inv (b7 X scope N' cl C s2 H1 fp pins) (lD fp s5.heap) ye H7 s7:=I7.kz fun p hp=>I7.pin p (List.mem_append_right _ (List.mem_append_right _ hp))
    have I9:Inv (b7 X scope N' cl C s2 H1 fp pins) (lD fp s5.heap) ye H7 { s7 with heap:=s7.heap.update D (Obj.mapSeq (·.push y)) }:=I8.turned (t':=s7.toks) (it:=D) Iv p7.2.1 HZ (.inr (by show s2.heap.objs.size<=D; rw [C6]; exact Nat.le_refl _)) (fun a c e=>(Iu a c (h1 _ _ e)).1) fun p hp z=>by
     rcases List.mem_append.mp hp with z' | z'
     ·exact (W4 p z').1 z
     ·exact Ql (by rw [<- z]; exact (rO z').1)
    refine ⟨m',Qm,i + 1,ys ++ [yv],its ++ [y],(if (its.toArray.push y).size == its.toArray.size then k else k + 1),ye,H7,I9.kz (pins':=[(D,zA (its ++ [y]) ((if (its.toArray.push y).size == its.toArray.size then k else k + 1)))]) fun p hp=>?_,T.keep _ _ _ Fk fun b hb o e=>?_,fun b hb=>?_,w7,rv.append (.cons r7 .nil)⟩
    ·have e:p=(D,zA (its ++ [y]) ((if (its.toArray.push y).size == its.toArray.size then k else k + 1))):=by simpa using hp
     subst e
     refine ⟨by rw [q,List.push_toArray],p7.2.1,HZ,W5 D (Nat.le_refl _),fun v z=>by cases z⟩
    ·have pb:=I7.pin (b,o) (List.mem_append_right _ (List.mem_append_right _ (fj hb e)))
     exact Iv b o (fun z=>Ql (by rw [<- z]; exact hb)) pb.1
    ·obtain ⟨o,e,d⟩:=T.obj _ _ Fk b hb
     exact (I7.pin (b,o) (List.mem_append_right _ (List.mem_append_right _ (fj hb e)))).2.1
  ·exact I3.kz fun p hp=>by
    have e:p=(D,zA [] 0):=by simpa using hp
    subst e
    exact ⟨lN,I2.cg.fresh (by rw [C6]; exact Nat.le_refl _),HZ,W5 D (Nat.le_refl _),fun v z=>by cases z⟩
 exact codeAny_compStart_list (loop _ rfl) (T.self _ 0 _ _ _ (T.keep _ _ _ cM fun b hb o e=>old b o e) (loop _ rfl))
theorem si (S:kG X scope xs ix N') (hc:X.calm=true) (hi:PI X tg iter wi) (hg:∀ cl C s2 H2 fp pins,PG (b7 X scope N' cl C s2 H2 fp pins) tg g) (hf:∀ cl C s2 H2 fp pins,PF (b7 X scope N' cl C s2 H2 fp pins) ifs tc) (pZ:∀ cl C s2 H2 fp pins,PE (b7 X scope N' cl C s2 H2 fp pins) elt te)
  (hs:∀ x,foldedSetIterable iter X.env x=pure x):PE X (.ListComp elt [⟨tg,iter,ifs,0⟩] scope pos) (yf wi xs.length ix g tc te):=by
 intro pins s σ H Q I h
 obtain ⟨cl,nO,h1,h2⟩:=lG (scope:=scope) (env:=X.env) (fun y hy hk=>I.ok.has y.1 (S.free y hy hk))
 rw [eval_ListComp]
 refine wpAny_comprehension_free (use:=none) rfl hs nO S.kind S.names (wpAny_mono (hi pins s σ H _ I h) (fun xv bA nB=>wpAny_mono nB (fun it lE sT=>?_) fun _ _ e=>e) fun _ _ e=>e)
 exact sg S hc hg hf pZ sT h1 h2 fun D C H' s1 m hn fC c1 c2 c3 c4 hI q=>⟨m,hn,fun h' jY=>⟨.ref D,H',hI h' jY,rfl,q⟩⟩
theorem Bi {i:Nat} {y:Str} {py C7:Pos} (S:kG X scope xs ix N') (hc:X.calm=true) (hi:PI X tg iter wi) (hg:∀ cl C s2 H2 fp pins,PG (b7 X scope N' cl C s2 H2 fp pins) tg g) (hf:∀ cl C s2 H2 fp pins,PF (b7 X scope N' cl C s2 H2 fp pins) ifs tc) (pZ:∀ cl C s2 H2 fp pins,PE (b7 X scope N' cl C s2 H2 fp pins) elt te)
  (hs:∀ x,foldedSetIterable iter X.env x=pure x) (Qn:X.N.Nodup) (LN:X.N[i]?=some y) (hy:X.env.scope.names.lookup y=some .local) (Qo:swapsWith (.ListComp elt [⟨tg,iter,ifs,0⟩] scope pos) (some (.Name y py)) C7.line X.env=pure true):
  PS X (.Assign [.Name y py] (.ListComp elt [⟨tg,iter,ifs,0⟩] scope pos) C7) (qV (yf wi xs.length ix g tc te) (jN i)):=by
 intro pins s σ H D I h
 obtain ⟨cl,nO,h1,h2⟩:=lG (scope:=scope) (env:=X.env) (fun y hy hk=>I.ok.has y.1 (S.free y hy hk))
 rw [exec_Assign_Name_used _ _ _ _ Qo]
 refine wpAny_bind (wpAny_standAt (wpAny_bind ?_))
 show wpAny _ X.A (do let _ <- comprehension (.ListComp elt [⟨tg,iter,ifs,0⟩] scope pos) scope X.env _ (newList []) false (eval iter X.env) (some (assign (.Name y py) X.env))) _ _ s
 refine wpAny_bind (wpAny_mono (wpAny_comprehension_free (use:=some (assign (.Name y py) X.env)) (Q:=fun _ s'=>SP X pins D .next s') rfl hs nO S.kind S.names
  (wpAny_mono (hi pins s σ H _ I h) (fun xv bA nB=>wpAny_mono nB (fun it lE sT=>?_) fun _ _ e=>e) fun _ _ e=>e)) (fun _ s' hq=>wpAny_pure (wpAny_pure hq)) fun _ _ e=>e)
 refine sg S hc hg hf pZ sT h1 h2 fun A C H' s1 m hn fC c1 c2 c3 c4 hI q=>?_
 have I1:Inv X pins σ H' s1:=hI s1.heap (.refl ..)
 refine wpAny_assign_Name (rN I1 Qn LN (.inl hy) (show RelV (.ref A) (.ref A) from rfl) (fun s3 I3 ch=>?_) (.inr hy))
 obtain ⟨a,Nh,ha⟩:=ch
 have YH:C≠a:=by
  rcases ha with z | z
  ·rw [z]; exact c2
  ·intro e; exact c3 y a z e.symm
 refine ⟨m,hn.sameBut Nh YH,fun h' jY=>?_⟩
 exact ⟨_,H',I3.turned (t':=s3.toks) (it:=C) (fun b o hb e=>(jY.2 b hb).trans e) fC c2 (.inr c1) c3 c4,q⟩
end
def ke (sc scope:Scope) (N:List Str) (xs:List Str) (ix:List Nat) (N':List Str):Bool:=
 (scope.kind == .function) && scope.names.all (fun y=> !(y.2 == .cell)) && scope.names.all (fun y=> !(y.2 == .local) || (scope.names.lookup y.1 == some .local))
 && scope.names.all (fun y=> !(y.2 == .free) || (sc.names.lookup y.1 == some .cell || sc.names.lookup y.1 == some .free))
 && (FJ sc scope).all (fun y=> !(y.2 == .cell || y.2 == .free) || scope.names.any (fun z=>z.1 == y.1 && z.2 == .free))
 && (N' == xs ++ ix.map fun j=>N.getD j "") && ix.all (fun j=>decide (j < N.length) && scope.names.any (fun z=>z.1 == N.getD j "" && z.2 == .free) && ((FJ sc scope).lookup (N.getD j "") == some .cell || (FJ sc scope).lookup (N.getD j "") == some .free))
theorem lP {sc scope:Scope} {N:List Str} {xs:List Str} {ix:List Nat} {N':List Str} (h:ke sc scope N xs ix N'=true) (e1:X.env.scope=sc) (e2:X.N=N):kG X scope xs ix N':=by
 subst e1 e2
 unfold ke at h
 simp only [Bool.and_eq_true,List.all_eq_true,Bool.or_eq_true,Bool.not_eq_true',List.any_eq_true,decide_eq_true_eq,beq_iff_eq,beq_eq_false_iff_ne] at h
 obtain ⟨⟨⟨⟨⟨⟨a1,a2⟩,a3⟩,a5⟩,a6⟩,a7⟩,a8⟩:=h
 refine ⟨a1,a2,fun y hy hk=>(a3 y hy).elim (fun z=>absurd hk z) id,fun y hy hk=>(a5 y hy).elim (fun z=>absurd hk z) id,fun n _ hn=>?_,a7,fun j hj=>?_⟩
 ·have:∃ k,(n,k)∈FJ X.env.scope scope /\ (k=NameKind.cell \/ k=NameKind.free):=by
   rcases hn with z | z
   ·exact ⟨_,lookup_mem z,.inl rfl⟩
   ·exact ⟨_,lookup_mem z,.inr rfl⟩
  obtain ⟨k,hk,CS⟩:=this
  rcases a6 (n,k) hk with z | ⟨z,hz,e1,e2⟩
  ·exfalso
   simp at z
   rcases CS with q | q
   ·exact z.1 q
   ·exact z.2 q
  ·obtain ⟨z1,z2⟩:=z
   cases e1; cases e2; exact hz
 ·obtain ⟨⟨b1,⟨z,hz,e1,e2⟩⟩,b3⟩:=a8 j hj
  refine ⟨b1,?_,b3⟩
  obtain ⟨z1,z2⟩:=z
  cases e2
  have LP:z1=X.N.getD j "":=e1
  rw [<- LP]; exact hz
end
end L2
namespace L2
open PySem PySem.Spec PyProof.Rows LS
def lQ (f:D->Option (Option D)):List D->Option (List D)
 | []=>some []
 | d :: ds=>(f d).bind fun o=>(lQ f ds).bind fun xs=>some (match o with | some x=>x :: xs | none=>xs)
def cz (gi:DS->Option (List D)) (k:Nat) (ix:List Nat) (gt:D->DS->Option DS) (gc:DS->Option Bool) (ge:DS->Option D):DS->Option (List D):=fun δ=>(gi δ).bind fun ds=>if ds.length<=100000 then
 lQ (fun d=>(gt d (List.replicate k none ++ df ix δ)).bind fun dW=>(gc dW).bind fun b=>if b=true then (ge dW).map some else some none) ds else none
def Iw (k:Nat) (gt:D->DS->Option DS):Prop:=∀ d c dW,gt d (List.replicate k none ++ c)=some dW->∃ own:DS,own.length=k /\ dW=own ++ c
theorem lR:Iw 1 (aL 0):=fun d c dW h=>by cases h; exact ⟨[some d],rfl,rfl⟩
set_option tactic.hygienic true in
theorem Nn:Iw 2 (gT 2 (bN (aL 0) (bN (aL 1) hZ))):=fun d c dW h=>by
 unfold gT at h
 split at h
 ·split at h
  ·rename_i ds hl
   match ds,hl with
   | [a,b],_=>cases h; exact ⟨[some a,some b],rfl,rfl⟩
  ·cases h
 ·cases h
section
variable {K:PySem.W.Frag} {O:List Nat} {U A0:List Addr} {σ:St} {δ:DS} {H H1:Hp}
theorem Rel.weak {own c:DS} (R:Rel K [] U A0 σ (own ++ c) H):Rel K [] U A0 σ (List.replicate own.length none ++ c) H where
 len:=by rw [R.len]; simp
 fz:=fun i e hi q=>by
  by_cases h:i < own.length
  ·rw [List.getElem?_append_left (by simpa using h),List.getElem?_replicate,if_pos h] at q
   cases q
  ·refine R.fz i e hi ?_
   rw [List.getElem?_append_right (by simpa using h)] at q
   rw [List.getElem?_append_right (by omega)]
   simpa using q
 ow:=fun i e hi=>by simp at hi
 inj:=fun i j d e l hi=>by simp at hi
 al:=R.al
theorem Rel.Np (R:Rel K O U A0 σ δ H) {ix:List Nat} (k:Nat) (xm:∀ j∈ix,j∉O):Rel K [] U A0 (List.replicate k none ++ L2.mM ix σ) (List.replicate k none ++ df ix δ) H where
 len:=by simp [L2.mM,df]
 fz:=fun i e _ q=>by
  by_cases h:i < k
  ·rw [List.getElem?_append_left (by simpa using h),List.getElem?_replicate,if_pos h] at q
   cases q
  ·rw [List.getElem?_append_right (by simpa using h)] at q ⊢
   simp only [List.length_replicate] at q ⊢
   unfold df at q
   unfold L2.mM
   rw [List.getElem?_map] at q ⊢
   cases ei:ix[i - k]? with
   | none=>rw [ei] at q; cases q
   | some j=>
     rw [ei] at q
     simp only [Option.map_some,Option.some.injEq] at q
     obtain ⟨u,hu,hd⟩:=R.fz j e (xm j (List.mem_of_getElem? ei)) (join_some q)
     exact ⟨u,by simp [hu],hd⟩
 ow:=fun i e hi=>by simp at hi
 inj:=fun i j d e l hi=>by simp at hi
 al:=R.al
structure CB (K:PySem.W.Frag) (U A0:List Addr) (H1:Hp) (ds xs:List D) (F:D->Option (Option D)) (base:DS) (i:Nat) (ys:List V) (τ:St) (H2:Hp) (zs rest:List D):Prop where
 le:i<=ds.length
 s:aH H1 H2
 R:Rel K [] U A0 τ base H2
 yl:ys.length<=i
 hz:cv K (wo H2 (U ++ A0)) ys zs
 he:lQ F (ds.drop i)=some rest
 hx:zs ++ rest=xs
def YI (K:PySem.W.Frag) (U A0:List Addr) (H1:Hp) (ds xs:List D) (F:D->Option (Option D)) (base:DS) (i m:Nat) (ys:List V) (τ:St) (H2:Hp):Prop:=m=ds.length - i /\ ∃ zs rest,CB K U A0 H1 ds xs F base i ys τ H2 zs rest
theorem Bj {J:It} {ix:List Nat} {k:Nat} {gt:D->DS->Option DS} {gc:DS->Option Bool} {ge:DS->Option D} {ds xs:List D} {Q:VK} (own:Iw k gt) (R:Rel K O U A0 σ δ H) (s:aH H H1) (xm:∀ j∈ix,j∉O) (hw:WalksS K (U ++ A0) H1 J ds)
  (hl:ds.length<=100000) (e:lQ (fun d=>(gt d (List.replicate k none ++ df ix δ)).bind fun dW=>(gc dW).bind fun b=>if b=true then (ge dW).map some else some none) ds=some xs)
  (q:∀ r ys H',aH H H'->H r=none->H' r=some (.lst ys)->cv K (wo H' (r :: (U ++ A0))) ys xs->Q (.ref r) H'):oZ J k ix (tG K [] gt) (tT K [] gc) (tE K [] ge) σ H1 Q:=by
 have Py:(100000:Nat) < sizeLine:=by decide
 obtain ⟨F,hF⟩:∃ F:D->Option (Option D),F=fun d=>(gt d (List.replicate k none ++ df ix δ)).bind fun dW=>(gc dW).bind fun b=>if b=true then (ge dW).map some else some none:=⟨_,rfl⟩
 rw [<- hF] at e
 refine ⟨YI K U A0 H1 ds xs F (List.replicate k none ++ df ix δ),⟨ds.length,rfl,[],xs,Nat.zero_le _,aH.refl _,(R.same s).Np k xm,Nat.le_refl _,.nil,e,rfl⟩,?_⟩
 rintro i m ys τ H2 ⟨rfl,zs,rest,w⟩
 have hle:=w.le
 have Kg:=w.yl
 have he:=w.he
 refine ⟨by omega,?_⟩
 obtain ⟨MY,vC⟩:=hw i H2 w.s
 by_cases fR:i < ds.length
 ·obtain ⟨go,OF⟩:=MY _ (List.getElem?_eq_getElem fR)
  rw [List.drop_eq_getElem_cons fR,lQ] at he
  generalize ds[i]=d at OF he
  obtain ⟨o,e1,e2⟩:=bind1 he
  obtain ⟨rs,e3,e4⟩:=bind1 e2
  rw [hF] at e1
  obtain ⟨dW,f1,f2⟩:=bind1 e1
  obtain ⟨b,f3,f4⟩:=bind1 f2
  obtain ⟨lR,ol,oe⟩:=own d _ dW f1
  refine .inr ⟨go,by omega,fun v H3 y=>?_⟩
  obtain ⟨s3,hv⟩:=OF v H3 y
  refine ⟨U,A0,_,d,dW,w.R.same s3,hv,f1,fun ye R3=>⟨U,A0,dW,b,R3,f3,fun H4 s4=>?_⟩⟩
  have wk:∀ {H':Hp},aH H3 H'->Rel K [] U A0 ye (List.replicate k none ++ df ix δ) H':=fun {H'} s'=>by
   rw [<- ol]
   rw [oe] at R3
   exact (R3.same s').weak
  have lt:ds.length - (i + 1) < ds.length - i:=Nat.sub_lt_sub_left fR (Nat.lt_succ_self i)
  cases b with
  | true=>
    rw [if_pos rfl] at f4
    dsimp only
    rw [if_pos rfl]
    cases eg:ge dW with
    | none=>rw [eg] at f4; cases f4
    | some x=>
      rw [eg] at f4; cases f4
      cases e4
      exact ⟨U,A0,dW,x,R3.same s4,eg,fun u H5 s5 hu=>⟨_,lt,rfl,zs ++ [x],rs,fR,((w.s.trans s3).trans s4).trans s5,wk (s4.trans s5),by rw [List.length_append]; exact Nat.succ_le_succ Kg,(w.hz.same (cq ((s3.trans s4).trans s5))).app (.cons hu .nil),e3,by rw [<- w.hx,List.append_assoc]; rfl⟩⟩
  | false=>
    rw [if_neg Bool.false_ne_true] at f4
    dsimp only
    rw [if_neg Bool.false_ne_true]
    cases f4
    cases e4
    exact ⟨_,lt,rfl,zs,rs,fR,(w.s.trans s3).trans s4,wk s4,Nat.le_succ_of_le Kg,w.hz.same (cq (s3.trans s4)),e3,w.hx⟩
 ·have hi:i=ds.length:=Nat.le_antisymm hle (Nat.le_of_not_lt fR)
  subst hi
  rw [List.drop_length,lQ] at he
  cases he
  have hx:=w.hx
  rw [List.append_nil] at hx
  subst hx
  exact .inl ⟨vC rfl,fun p hp=>pL (s.trans w.s) q p ys hp w.hz⟩
end
section
variable {X:Cx} {O:List Nat} {fr:Bool} {scope:Scope} {elt iter tg:Expr} {ifs:List Expr} {pos:Pos} {gi:DS->Option (List D)} {ge:DS->Option D} {gt:D->DS->Option DS} {gc:DS->Option Bool} {k:Nat}
theorem PF.mono {t t':TT} (h:PF X ifs t) (m:∀ σ H Q,t' σ H Q->t σ H Q):PF X ifs t':=fun pins s σ H Q I q=>h pins s σ H Q I (m σ H Q q)
theorem ie:PF X [] (tT X.K O fun _=>some true):=Kk.mono fun σ H Q hh=>hh.e fun U A0 δ b R e q=>by cases e; exact q H (aH.refl H)
set_option tactic.hygienic true in
theorem vL {K:PySem.W.Frag} {ix:List Nat} (own:Iw k gt) (xm:∀ j∈ix,j∉O) {σ:St} {H:Hp} {Q:VK}:tN K O (cz gi k ix gt gc ge) σ H Q->yf (J6 K O gi) k ix (tG K [] gt) (tT K [] gc) (tE K [] ge) σ H Q:=fun ⟨U,A0,δ,xs,R,ed,q⟩=>by
 obtain ⟨ds,e1,e2⟩:=bind1 ed
 split at e2
 ·rename_i hl
  exact ⟨U,A0,δ,ds,R,e1,fun J H1 s hw=>Bj own R s xm hw hl e2 q⟩
 ·cases e2
theorem d7 (sc:Scope) (N:List Str) (ix:List Nat) (N' xs:List Str) (own:Iw k gt) (hi:PI X tg iter (J6 X.K O gi)) (hg:∀ cl C s2 H2 fp pins,PG (b7 X scope N' cl C s2 H2 fp pins) tg (tG X.K [] gt)) (hf:∀ cl C s2 H2 fp pins,PF (b7 X scope N' cl C s2 H2 fp pins) ifs (tT X.K [] gc))
  (pZ:∀ cl C s2 H2 fp pins,PE (b7 X scope N' cl C s2 H2 fp pins) elt (tE X.K [] ge)) (xm:∀ j∈ix,j∉O:=by decide) (hk:ke sc scope N xs ix N'=true:=by decide +kernel) (hl:xs.length=k:=by rfl)
  (e1:X.env.scope=sc:=by rfl) (e2:X.N=N:=by rfl) (hc:X.calm=true:=by rfl) (hs:∀ x,foldedSetIterable iter X.env x=pure x:=by intro _; rfl):PE X (.ListComp elt [⟨tg,iter,ifs,0⟩] scope pos) (tN X.K O (cz gi k ix gt gc ge)):=by
 subst hl
 exact (si (lP hk e1 e2) hc hi hg hf pZ hs).mono fun _ _ _=>vL own xm
theorem vM {i:Nat} {y:Str} {py C7:Pos} (sc:Scope) (N:List Str) (ix:List Nat) (N' xs:List Str) (Qn:X.N.Nodup) (LN:X.N[i]?=some y) (hy:X.env.scope.names.lookup y=some .local) (own:Iw k gt) (hi:PI X tg iter (J6 X.K O gi))
  (hg:∀ cl C s2 H2 fp pins,PG (b7 X scope N' cl C s2 H2 fp pins) tg (tG X.K [] gt)) (hf:∀ cl C s2 H2 fp pins,PF (b7 X scope N' cl C s2 H2 fp pins) ifs (tT X.K [] gc)) (pZ:∀ cl C s2 H2 fp pins,PE (b7 X scope N' cl C s2 H2 fp pins) elt (tE X.K [] ge))
  (xm:∀ j∈ix,j∉O:=by decide) (hk:ke sc scope N xs ix N'=true:=by decide +kernel) (hl:xs.length=k:=by rfl)
  (e1:X.env.scope=sc:=by rfl) (e2:X.N=N:=by rfl) (hc:X.calm=true:=by rfl) (hs:∀ x,foldedSetIterable iter X.env x=pure x:=by intro _; rfl) (Qo:swapsWith (.ListComp elt [⟨tg,iter,ifs,0⟩] scope pos) (some (.Name y py)) C7.line X.env=pure true:=by rfl):
  PS X (.Assign [.Name y py] (.ListComp elt [⟨tg,iter,ifs,0⟩] scope pos) C7) (qV (tN X.K O (cz gi k ix gt gc ge)) (jN i)):=by
 subst hl
 exact (Bi (lP hk e1 e2) hc hi hg hf pZ hs Qn LN hy Qo).mono fun _ _ _ h=>vL own xm h
end
section
variable {X:Cx}
def yi (K:PySem.W.Frag):R2:=fun x y H Q=>∃ a b ys,x=.ref a /\ y=.ref b /\ jn K H a [] /\ jn K H b ys /\ Q (.ref b) H
theorem C8:iV X (binaryOp .Add) (yi X.K):=by
 intro pins s σ H x y v u Q I rx ry h
 obtain ⟨a,b,ys,rfl,rfl,ha,hb,q⟩:=h
 cases rx
 cases ry
 obtain ⟨its,r1,p1,_⟩:=I.tuple ha
 obtain ⟨qY,r2,p2,_⟩:=I.tuple hb
 have e:=r1.oW.mpr rfl
 subst e
 obtain ⟨⟨c1,d1,dt1,Qp⟩,ho,hc,n,hd⟩:=id p1
 obtain ⟨⟨c2,d2,dt2,LF⟩,nq,Jr,n2,hd2⟩:=id p2
 simp only at hc hd Jr hd2
 subst hc hd Jr hd2
 exact concat_meets ⟨_,ho,rfl⟩ ⟨_,nq,rfl⟩ noFill_tuple_add seq_tuple_add PySem.F.slot_tuple_add PySem.F.entry_tuple_add (PySem.F.args_tuple_add_2 _ _) (tuple_addW0 a b #[] qY.toArray n n2 d1 d2 Qp LF (by simp)) ⟨ho,nq,⟨.ref b,H,I,rfl,q⟩⟩
end
def bp (a b:D):Option D:=match a,b with
 | .tuple [],.tuple l=>some (.tuple l)
 | a,b=>CG a b
theorem ba {X:Cx}:iV X (binaryOp .Add) (fun x y H Q=>zH X.K x y H Q \/ yi X.K x y H Q):=FO.or C8
theorem aT {K:PySem.W.Frag}:jo K (fun x y H Q=>zH K x y H Q \/ yi K x y H Q) bp:=by
 intro A H x y dx dy d Q al hx hy e q
 unfold bp at e
 split at e
 ·cases e
  have hf:=hy.fz
  obtain ⟨a,xs,rfl,h1,h2⟩:=hx.tuple
  obtain ⟨b,zs,rfl,h3,h4⟩:=hy.tuple
  cases h2
  exact .inr ⟨a,b,zs,rfl,rfl,h1,h3,q _ H (aH.refl H) hf⟩
 ·exact .inl (FP A H x y _ _ d Q al hx hy e q)
def Nq (K:PySem.W.Frag) (a:Addr):It:=
 ⟨fun i H=>∃ xs x,jn K H a xs /\ xs[i]?=some x,fun i H x H'=>∃ p v,H p=none /\ x=.ref p /\ H'=upd H p (.tup [.int i,v]) /\ ∀ xs,jn K H a xs->xs[i]?=some v,fun i H=>∃ xs,jn K H a xs /\ xs.length=i⟩
theorem yj {P:Program} {w:World} {K:PySem.W.Frag} {es:List Expr} {kk} {iW:Pos} (a e it:Addr) (iJ:e≠it):Turn P w K (.Tuple es kk iW) (Nq K a) [e,it] e (fun i h=>(∃ old,IsEnum h e it i old) /\ h.IsTupleIter it a i) where
 mem:=by simp
 obj:=fun i h st b hb=>by
  obtain ⟨⟨old,he⟩,o,ho,c,d⟩:=st
  rcases List.mem_cons.mp hb with z | z
  ·subst z; exact ⟨_,he,fun v z=>by cases z⟩
  ·have z:b=it:=by simpa using z
   subst z; exact ⟨o,ho,fun v z=>by rw [d] at z; cases z⟩
 keep:=fun i h h' st k=>by
  obtain ⟨⟨old,he⟩,cM⟩:=st
  exact ⟨⟨old,k e (by simp) _ he⟩,cM.at fun o eo=>k it (by simp) o eo⟩
 item:=by
  intro X hP hw hK hc i pins s σ H E I hf st hg
  subst hP hw hK
  obtain ⟨xs,x,hq,hx⟩:=hg
  obtain ⟨its,rv,p,hz⟩:=I.tuple hq
  obtain ⟨u,hu,ru⟩:=rv.get hx
  obtain ⟨⟨old,he⟩,cM⟩:=st
  have hp:s.heap.IsTuple a its.toArray:=p
  have Qq:e≠a:=fun z=>by
   obtain ⟨o,ho,nO,_⟩:=hp
   rw [<- z] at ho
   have:=ho.symm.trans he
   cases this
   exact absurd (Value.type.inj nO) (by decide)
  have Kn:a≠it:=fun z=>by
   obtain ⟨o,ho,nO,_⟩:=hp
   obtain ⟨o2,nq,p0,_⟩:=cM
   rw [z] at ho
   have:=ho.symm.trans nq
   cases this
   rw [nO] at p0
   exact absurd (Value.type.inj p0) (by decide)
  have Iy:i < its.toArray.size:=by
   have:=(List.getElem?_eq_some_iff.mp hu).1
   simpa using this
  refine wpAny_pyNext_enum_itemD (iO (A:=X.A.in1) (I.ok.hd hc) it a Kn its.toArray) he ⟨cM,hp⟩ Iy iJ (by simp [iJ,Qq]) fun y h1 tk hy AA C9 LK FZ A8=>?_
  have Qr:y=u:=by
   have h3:its.toArray[i]?=some u:=by simpa using hu
   have h4:its.toArray[i]?=some y:=hy
   rw [h3] at h4; cases h4; rfl
  subst Qr
  refine ⟨_,rfl,wpAny_letOwnedTupleGo_enum AA fun h2 JS kA=>?_⟩
  replace kA:Heap.SameBut e h1 h2:=kA
  have Ij:e < s.heap.objs.size:=Heap.lt_size he
  have I1:Inv X pins σ H { s with heap:=h2,toks:=tk + 1 }:=I.fV (t':=tk + 1) (ch:=[e,it]) (fun b o hb eo=>by
   simp only [List.mem_cons,List.not_mem_nil,or_false,not_or] at hb
   exact (kA.2 b hb.1).trans (A8 b o hb.1 hb.2 eo)) hf
  have J5:IsTup h2 s.heap.objs.size [Value.int i tk,y].toArray:=⟨_,(kA.2 _ (Nat.ne_of_gt Ij)).trans LK,rfl,_,rfl⟩
  have mV:H s.heap.objs.size=none:=I.cg.fresh (Nat.le_refl _)
  have fo:=I.mG (H':=H) (Nat.le_refl _) mV
  have I2:Inv X pins σ (upd H s.heap.objs.size (.tup [.int i,x])) { s with heap:=h2,toks:=tk + 1 }:=I1.ti mV (Nat.le_trans I.sz (Nat.le_refl _)) fo.2.1 fo.2.2.2.2.1 fo.2.2.2.2.2 J5 (.cons ⟨_,rfl⟩ (.cons ru .nil)) (by show 2<=sizeLine; decide)
  refine ⟨.ref s.heap.objs.size,_,I2,rfl,⟨_,x,mV,rfl,rfl,fun ys hy=>by rw [I.nu hy hq]; exact hx⟩,⟨⟨y,JS⟩,C9.1.extBut kA.extBut (Ne.symm iJ)⟩,fun b hb=>?_⟩
  have fR:b < s.heap.objs.size:=by
   rcases List.mem_cons.mp hb with z | z
   ·subst z; exact Ij
   ·have z:b=it:=by simpa using z
    subst z
    obtain ⟨o,ho,_⟩:=cM
    exact Heap.lt_size ho
  rw [aR (Nat.ne_of_lt fR)]
  exact (hf b hb).1
 done:=by
  intro X hP hw hK hc i pins s σ H E I hf st hg
  subst hP hw hK
  obtain ⟨xs,hq,hx⟩:=hg
  obtain ⟨its,rv,p,hz⟩:=I.tuple hq
  obtain ⟨⟨old,he⟩,cM⟩:=st
  have hp:s.heap.IsTuple a its.toArray:=p
  have Kn:a≠it:=fun z=>by
   obtain ⟨o,ho,nO,_⟩:=hp
   obtain ⟨o2,nq,p0,_⟩:=cM
   rw [z] at ho
   have:=ho.symm.trans nq
   cases this
   rw [nO] at p0
   exact absurd (Value.type.inj p0) (by decide)
  have hl:=rv.length
  have hsz:its.toArray.size=i:=by rw [List.size_toArray,<- hl]; exact hx
  refine wpAny_pyNext_enum_endD (iO (A:=X.A.in1) (I.ok.hd hc) it a Kn its.toArray) he ⟨by rw [hsz]; exact cM,hp⟩ fun h1 eb=>⟨rfl,?_⟩
  exact I.fV (t':=s.toks) (ch:=[e,it]) (fun b o hb eo=>eb b o (fun z=>hb (by simp [z])) eo) hf
 self:=fun _ _ _ _ _ st h=>by
  obtain ⟨⟨old,he⟩,_⟩:=st
  exact wpAny_pyIter_enum he h
section
variable {X:Cx} {O:List Nat} {a:Expr} {ge:DS->Option D} {p pos:Pos} {es:List Expr} {kk} {iW:Pos}
def Ko (K:PySem.W.Frag) (ta:TA):TI:=fun σ H R=>ta σ H fun vs H1=>∃ a xs,vs=[.ref a] /\ jn K H1 a xs /\ R (Nq K a) H1
theorem Dc {ta:TA} (hg:Gl X "enumerate") (hm:X.mg "enumerate"=none) (ha:PA X [a] ta) (hs:starEach [a] X.env=[(false,eval a X.env)]:=by rfl):PI X (.Tuple es kk iW) (.Call (.Name "enumerate" p) [a] [] pos) (Ko X.K ta):=by
 intro pins s σ H R I h
 refine Call_ (iB I hg hm jr (PyProof.Rows.callWith_type1 (dZ (ha pos pins s σ H _ I h) fun us s1 ⟨vs,H1,I1,r1,q1⟩=>?_) hs rfl))
 obtain ⟨b,xs,e,hq,q⟩:=q1
 subst e
 obtain ⟨u,rfl,ru⟩:=vals1 r1
 cases ru
 obtain ⟨its,rv,pl,hz⟩:=I1.tuple hq
 refine xW (show s1.heap.IsTuple b its.toArray from pl) fun h' he hit hsz hk=>?_
 refine wpAny_pyIter_enum he ?_
 refine ⟨s1.heap.objs.size + 1,[s1.heap.objs.size + 1,s1.heap.objs.size],_,_,H1,rfl,I1.kept (t':=s1.toks) hk,yj b _ s1.heap.objs.size (Nat.succ_ne_self _),⟨⟨_,he⟩,hit⟩,fun b hb=>?_,q⟩
 have hle:s1.heap.objs.size<=b:=by
  simp only [List.mem_cons,List.not_mem_nil,or_false] at hb
  rcases hb with z | z
  ·rw [z]; exact Nat.le_succ _
  ·rw [z]; exact Nat.le_refl _
 exact I1.mG hle (I1.cg.fresh hle)
def yk (g:DS->Option D):DS->Option (List D):=fun δ=>(g δ).bind fun | .tuple l=>some (jb l) | _=>none
theorem vN (hm:X.mg "enumerate"=none) (ha:PE X a (tE X.K O ge)) (hg:Gl X "enumerate":=by rfl) (hs:starEach [a] X.env=[(false,eval a X.env)]:=by rfl) (M4:starEach ([]:List Expr) X.env=[]:=by rfl):PI X (.Tuple es kk iW) (.Call (.Name "enumerate" p) [a] [] pos) (tI X.K O (yk ge)):=
 (Dc hg hm (cn ha dz (by rw [hs,M4])) hs).mono fun σ H Q hh=>hh.e fun U A0 δ ds R ed q=>by
  obtain ⟨x,e1,e2⟩:=bind1 ed
  cases x with
  | tuple l=>
    cases e2
    refine ⟨U,A0,δ,_,R,e1,fun v H' s h=>?_⟩
    cases h with
    | tup hq h=>
      refine ⟨_,_,rfl,.inl (cb.lH hq),q _ H' s ?_⟩
      intro A' i H2 s2 al
      have h2:=h.same s2
      have hL:jn X.K H2 _ _:=.inl (cb.lH (s2.lH hq))
      refine ⟨fun d hd=>?_,fun hi=>⟨_,hL,by rw [hi,nM,h2.len]⟩⟩
      obtain ⟨y,hy,rfl⟩:=r8 hd
      obtain ⟨v,hv,M5⟩:=h2.get hy
      refine ⟨⟨_,v,hL,hv⟩,fun z H3 hz=>?_⟩
      obtain ⟨p,v',hp,rfl,rfl,M6⟩:=hz
      have:=M6 _ hL
      rw [hv] at this
      cases this
      exact ⟨cD hp _,HD.sY al hp (.cons (.int _) (.cons M5 .nil))⟩
  | _=>cases e2
end
end L2
namespace L2
open PySem PySem.Spec PyProof.Rows
def Kp:D->Option Key
 | .int i=>some (.inl i)
 | .str x=>some (.inr x)
 | _=>none
def keysOf:List D->Option (List Key)
 | []=>some []
 | d :: ds=>(Kp d).bind fun k=>(keysOf ds).bind fun ks=>some (k :: ks)
def keyOf:D->Option (List Key)
 | .tuple ds=>keysOf ds
 | _=>none
theorem iE:∀ k:List Key,keysOf (k.map mN)=some k
 | []=>rfl
 | .inl i :: k=>by rw [List.map_cons,keysOf,iE k]; rfl
 | .inr i :: k=>by rw [List.map_cons,keysOf,iE k]; rfl
theorem sj {K:PySem.W.Frag} {H:Hp}:∀ {xs:List V} {ds:List D} {k:List Key},cv K H xs ds->keysOf ds=some k->xs=k.map kV
 | _,_,_,.nil,e=>by cases e; rfl
 | _,_,_,.cons h t,e=>by
   rw [keysOf] at e
   obtain ⟨a,e1,e2⟩:=bind1 e
   obtain ⟨b,e3,e4⟩:=bind1 e2
   cases e4
   rw [sj t e3,List.map_cons]
   cases h with
   | int i=>cases e1; rfl
   | str x=>cases e1; rfl
   | _=>cases e1
def cw (kds:List (D×D)) (k:List Key):Option D:=(kds.find? fun p=>decide (keyOf p.1=some k)).map (·.2)
def gU (kds:List (D×D)) (k:List Key) (d:D):List (D×D):=
 if (kds.any fun p=>decide (keyOf p.1=some k))=true then kds.map (fun p=>if keyOf p.1=some k then (p.1,d) else p) else kds ++ [(.tuple (k.map mN),d)]
theorem eL {p:D×D} {r:List (D×D)} {k:List Key} (e:keyOf p.1=some k):cw (p :: r) k=some p.2:=by simp [cw,List.find?_cons,e]
theorem eM {p:D×D} {r:List (D×D)} {k:List Key} (e:¬ keyOf p.1=some k):cw (p :: r) k=cw r k:=by simp [cw,List.find?_cons,e]
theorem kH (k:List Key):∀ kds:List (D×D),(kds.any fun p=>decide (keyOf p.1=some k))=(cw kds k).isSome
 | []=>rfl
 | p :: r=>by
   rw [List.any_cons]
   by_cases e:keyOf p.1=some k
   ·simp only [eL e,decide_eq_true e,Bool.true_or,Option.isSome_some]
   ·rw [eM e,decide_eq_false e,Bool.false_or]; exact kH k r
theorem sk (k j:List Key) (y:D):∀ kds:List (D×D),cw (kds.map fun p=>if keyOf p.1=some k then (p.1,y) else p) j=(cw kds j).map fun x=>if j=k then y else x
 | []=>rfl
 | p :: r=>by
   have ih:=sk k j y r
   rw [List.map_cons]
   by_cases h:keyOf p.1=some k
   ·rw [if_pos h]
    by_cases e:keyOf p.1=some j
    ·rw [eL (p:=(p.1,y)) e,eL e,Option.map_some,if_pos (Option.some.inj (e.symm.trans h))]
    ·rw [eM (p:=(p.1,y)) e,eM e,ih]
   ·rw [if_neg h]
    by_cases e:keyOf p.1=some j
    ·rw [eL (p:=p) e,eL e,Option.map_some,if_neg (fun z=>h (by rw [e,z]))]
    ·rw [eM (p:=p) e,eM e,ih]
theorem so (j:List Key):∀ a b:List (D×D),cw (a ++ b) j=(cw a j).or (cw b j)
 | [],b=>by rw [List.nil_append]; rfl
 | p :: r,b=>by
   rw [List.cons_append]
   by_cases e:keyOf p.1=some j
   ·rw [eL e,eL e]; rfl
   ·rw [eM e,eM e]; exact so j r b
theorem Bk (kds:List (D×D)) (k j:List Key) (d:D):cw (gU kds k d) j=if j=k then some d else cw kds j:=by
 unfold gU
 by_cases a:(kds.any fun p=>decide (keyOf p.1=some k))=true
 ·rw [if_pos a,sk]
  rw [kH] at a
  by_cases e:j=k
  ·obtain ⟨x,hx⟩:=Option.isSome_iff_exists.mp a
   rw [if_pos e,e,hx,Option.map_some,if_pos rfl]
  ·rw [if_neg e]
   cases cw kds j with
   | none=>rfl
   | some x=>rw [Option.map_some,if_neg e]
 ·rw [if_neg a,so]
  rw [kH] at a
  have hk:keyOf (.tuple (k.map mN))=some k:=iE k
  by_cases e:j=k
  ·subst e
   have:cw kds j=none:=by
    cases q:cw kds j with
    | none=>rfl
    | some x=>rw [q] at a; exact (a rfl).elim
   rw [if_pos rfl,this,eL hk]; rfl
  ·rw [if_neg e,eM (by rw [hk]; exact fun z=>e (Option.some.inj z).symm)]
   exact Option.or_none
theorem kI (kds:List (D×D)) (k:List Key) (d:D):(gU kds k d).length<=kds.length + 1:=by
 unfold gU
 split
 ·rw [List.length_map]; omega
 ·rw [List.length_append,List.length_cons,List.length_nil]; omega
inductive DK (K:PySem.W.Frag) (H:Hp):List (List Key×V)->List (D×D)->Prop
 | nil:DK K H [] []
 | cons {k:List Key} {v:V} {d:D} {r:List (List Key×V)} {s:List (D×D)}:HD K H v d->DK K H r s->DK K H ((k,v) :: r) ((.tuple (k.map mN),d) :: s)
section
variable {K:PySem.W.Frag} {H H':Hp} {A:List Addr}
theorem DK.of:∀ {aQ:List (List Key×V)} {kds:List (D×D)},kds.map (·.1)=aQ.map (fun p=>PyData.tuple (p.1.map mN))->cv K H (aQ.map (·.2)) (kds.map (·.2))->DK K H aQ kds
 | [],[],_,_=>.nil
 | [],_ :: _,e,_=>by simp at e
 | _ :: _,[],e,_=>by simp at e
 | (k,v) :: r,(x,d) :: s,e,h=>by
   simp only [List.map_cons,List.cons.injEq] at e
   obtain ⟨e1,e2⟩:=e
   subst e1
   cases h with
   | cons h1 h2=>exact .cons h1 (DK.of e2 h2)
theorem DK.keys:∀ {aQ:List (List Key×V)} {kds:List (D×D)},DK K H aQ kds->kds.map (·.1)=aQ.map (fun p=>PyData.tuple (p.1.map mN))
 | _,_,.nil=>rfl
 | _,_,.cons _ t=>by rw [List.map_cons,List.map_cons,DK.keys t]
theorem DK.vals:∀ {aQ:List (List Key×V)} {kds:List (D×D)},DK K H aQ kds->cv K H (aQ.map (·.2)) (kds.map (·.2))
 | _,_,.nil=>.nil
 | _,_,.cons h t=>.cons h (DK.vals t)
theorem DK.own {aQ:List (List Key×V)} {kds:List (D×D)} (h:DK K H aQ kds):xI K H (.dT aQ) (.dict kds):=.qO h.keys h.vals
theorem DK.same {aQ:List (List Key×V)} {kds:List (D×D)} (s:aH H H') (h:DK K H aQ kds):DK K H' aQ kds:=DK.of h.keys (h.vals.same s)
theorem DK.len:∀ {aQ:List (List Key×V)} {kds:List (D×D)},DK K H aQ kds->aQ.length=kds.length
 | _,_,.nil=>rfl
 | _,_,.cons _ t=>by rw [List.length_cons,List.length_cons,DK.len t]
theorem DK.look (k:List Key):∀ {aQ:List (List Key×V)} {kds:List (D×D)},DK K H aQ kds->(∀ d,cw kds k=some d->∃ v,mJ aQ k=some v /\ HD K H v d) /\ (cw kds k=none->mJ aQ k=none)
 | _,_,.nil=>⟨fun d e=>(by cases e),fun _=>rfl⟩
 | _,_,.cons (k:=j) (v:=v) (d:=d) (r:=r) (s:=s) h t=>by
   have hj:keyOf (.tuple (j.map mN))=some j:=iE j
   by_cases e:j=k
   ·subst e
    rw [eL (p:=(PyData.tuple (j.map mN),d)) hj,mK (p:=(j,v)) rfl]
    exact ⟨fun d' q=>by cases q; exact ⟨v,rfl,h⟩,fun q=>by cases q⟩
   ·rw [eM (p:=(PyData.tuple (j.map mN),d)) (by rw [hj]; exact fun z=>e (Option.some.inj z)),mL (p:=(j,v)) e]
    exact DK.look k t
theorem DK.rep (k:List Key) {v:V} {d:D} (hv:HD K H v d):∀ {aQ:List (List Key×V)} {kds:List (D×D)},DK K H aQ kds->DK K H (aQ.map fun kv=>if kv.1=k then (kv.1,v) else kv) (kds.map fun p=>if keyOf p.1=some k then (p.1,d) else p)
 | _,_,.nil=>.nil
 | _,_,.cons (k:=j) h t=>by
   have hj:keyOf (.tuple (j.map mN))=some j:=iE j
   rw [List.map_cons,List.map_cons]
   by_cases e:j=k
   ·subst e
    rw [if_pos rfl,if_pos hj]; exact .cons hv (DK.rep j hv t)
   ·rw [if_neg e,if_neg (by rw [hj]; exact fun z=>e (Option.some.inj z))]; exact .cons h (DK.rep k hv t)
theorem DK.app:∀ {a:List (List Key×V)} {b:List (D×D)} {a':List (List Key×V)} {b':List (D×D)},DK K H a b->DK K H a' b'->DK K H (a ++ a') (b ++ b')
 | _,_,_,_,.nil,q=>q
 | _,_,_,_,.cons h t,q=>.cons h (DK.app t q)
theorem DK.put {aQ:List (List Key×V)} {kds:List (D×D)} (h:DK K H aQ kds) (k:List Key) {v:V} {d:D} (hv:HD K H v d):DK K H (putK aQ k v) (gU kds k d):=by
 have e:(aQ.any fun kv=>decide (kv.1=k))=kds.any fun p=>decide (keyOf p.1=some k):=by
  rw [pG,kH]
  cases q:cw kds k with
  | none=>rw [(h.look k).2 q]; rfl
  | some x=>obtain ⟨w,hw,_⟩:=(h.look k).1 x q; rw [hw]; rfl
 unfold putK gU
 rw [e]
 split
 ·exact h.rep k hv
 ·exact h.app (.cons hv .nil)
theorem ia.dk {x:V} {kds:List (D×D)} (h:ia K A H x (.dict kds)) (hf:AV kds=false):∃ a aQ,x=.ref a /\ H a=some (.dT aQ) /\ DK K (wo H A) aQ kds:=
 let ⟨a,aQ,e,h1,h2,h3⟩:=h.dict hf; ⟨a,aQ,e,h1,DK.of h2 h3⟩
theorem ia.key {y:V} {d:D} {k:List Key} (h:ia K A H y d) (e:keyOf d=some k):∃ b,y=.ref b /\ dw H b (k.map kV):=by
 cases d with
 | tuple ds=>
   obtain ⟨b,ys,rfl,hb,hd⟩:=h.MN
   exact ⟨b,rfl,by rw [<- sj hd e]; exact hb⟩
 | _=>cases e
end
def p5 (gd gk:DS->Option D):DS->Option D:=fun δ=>(gd δ).bind fun x=>(gk δ).bind fun y=>match x with
 | .dict kds=>if AV kds=true then none else (keyOf y).bind fun k=>cw kds k
 | _=>none
def lS (gd gk ge:DS->Option D):DS->Option D:=fun δ=>(gd δ).bind fun x=>(gk δ).bind fun y=>(ge δ).bind fun z=>match x with
 | .dict kds=>if AV kds=true then none else (keyOf y).bind fun k=>some ((cw kds k).getD z)
 | _=>none
def sr (i:Nat) (gk ge:DS->Option D):DS->Option Res:=fun δ=>(ge δ).bind fun d=>(ae i δ).bind fun x=>(gk δ).bind fun y=>match x with
 | .dict kds=>(keyOf y).bind fun k=>if kds.length < 100000 then some (.nx (δ.set i (some (.dict (gU kds k d))))) else none
 | _=>none
def Dd (i:Nat) (g:DS->Option (List (D×D))):DS->Option Res:=fun δ=>(g δ).bind fun d=>some (.nx (δ.set i (some (.dict d))))
def ym (gk ge:DS->Option D):DS->Option (List (D×D)):=fun δ=>(gk δ).bind fun y=>(ge δ).bind fun d=>(keyOf y).bind fun k=>some [(.tuple (k.map mN),d)]
def W7 (K:PySem.W.Frag) (O:List Nat) (g:DS->Option (List (D×D))):TE:=fun σ H Q=>∃ U A0 δ kds,Rel K O U A0 σ δ H /\ g δ=some kds /\
 ∀ r aQ H',aH H H'->H r=none->H' r=some (.dT aQ)->DK K (wo H' (r :: (U ++ A0))) aQ kds->Q (.ref r) H'
section
variable {X:Cx} {O:List Nat} {fr:Bool} {st:Stmt} {gd gk ge:DS->Option D} {gl:DS->Option (List (D×D))} {o i e f value:Expr} {pos apos gR:Pos}
set_option tactic.hygienic true in
theorem tF (hu:X.A.units + 1 < cLine) (ho:PE X o (jl X.K O gd)) (hi:PE X i (jl X.K O gk)) (hs:JF i:=by intro _ _; rfl):PE X (.Subscript o i pos) (tE X.K O (p5 gd gk)):=(FE hu ho hi hs).mono fun σ H Q hh=>hh.e fun U A0 δ d R ed q=>by
 obtain ⟨x,e1,e2⟩:=bind1 ed
 obtain ⟨y,e3,e4⟩:=bind1 e2
 refine ⟨U,A0,δ,x,R,e1,fun v H1 s1 h1=>⟨U,A0,δ,y,R.same s1,e3,fun v2 H2 s2 h2=>?_⟩⟩
 cases x with
 | dict kds=>
   have e4:(if AV kds=true then none else (keyOf y).bind fun k=>cw kds k)=some d:=e4
   split at e4
   ·cases e4
   rename_i hf
   have hf:=Bool.eq_false_iff.mpr hf
   obtain ⟨k,e5,e6⟩:=bind1 e4
   obtain ⟨a,aQ,rfl,ha,dk⟩:=(h1.same s2).dk hf
   obtain ⟨b,rfl,hb⟩:=h2.key e5
   obtain ⟨w,hw,hd⟩:=(dk.look k).1 d e6
   refine ⟨a,w,rfl,?_,q w H2 (s1.trans s2) hd⟩
   rw [<- hw]; exact sR.t ha hb
 | _=>cases e4
set_option tactic.hygienic true in
theorem p6 (hu:X.A.units + 1 < cLine) (ho:PE X o (jl X.K O gd)) (hi:PE X e (jl X.K O gk)) (hx:PE X f (tE X.K O ge)) (m:M2 X o "get" apos e f gR:=by exact ⟨rfl,rfl,rfl,rfl⟩):PE X (.Call (.Attribute o "get" apos) [e,f] [] gR) (tE X.K O (lS gd gk ge)):=(Cq hu ho hi hx m).mono fun σ H Q hh=>hh.e fun U A0 δ d R ed q=>by
 obtain ⟨x,e1,e2⟩:=bind1 ed
 obtain ⟨y,e3,e4⟩:=bind1 e2
 obtain ⟨z,e5,e6⟩:=bind1 e4
 refine ⟨U,A0,δ,x,R,e1,fun v H1 s1 h1=>?_⟩
 cases x with
 | dict kds=>
   have e6:(if AV kds=true then none else (keyOf y).bind fun k=>some ((cw kds k).getD z))=some d:=e6
   split at e6
   ·cases e6
   rename_i hf
   have hf:=Bool.eq_false_iff.mpr hf
   obtain ⟨k,e7,e8⟩:=bind1 e6
   cases e8
   obtain ⟨a,aQ,rfl,ha,dk⟩:=h1.dk hf
   refine ⟨a,rfl,.inr ⟨_,.inl ha⟩,U,A0,δ,y,R.same s1,e3,fun v2 H2 s2 h2=>⟨U,A0,δ,z,(R.same s1).same s2,e5,fun v3 H3 s3 h3=>?_⟩⟩
   obtain ⟨b,rfl,hb⟩:=(h2.same s3).key e7
   have W8:=dk.same (cq (A:=U ++ A0) (s2.trans s3))
   refine ⟨mJ aQ k,sR.t ((s2.trans s3) _ _ ha) hb,q _ H3 (s1.trans (s2.trans s3)) ?_⟩
   cases w:cw kds k with
   | none=>rw [(W8.look k).2 w]; exact h3
   | some d'=>obtain ⟨w',YJ,Fe⟩:=(W8.look k).1 d' w; rw [YJ]; exact Fe
 | _=>cases e6
set_option tactic.hygienic true in
theorem zQ {i:Nat} (h:PS X st (HV (uX i) (jl X.K O gk) (tE X.K O ge))) (hi:i∈O:=by decide):PS X st (tS X.K O fr (sr i gk ge)):=h.mono fun E σ H hh=>hh.e fun H0 U A0 δ r R F ed P=>by
 obtain ⟨d,e1,e2⟩:=bind1 ed
 obtain ⟨x,e3,e4⟩:=bind1 e2
 obtain ⟨y,e5,e6⟩:=bind1 e4
 obtain ⟨l,o,hl,hU,h1,h2⟩:=R.ow i x hi (join_some e3)
 cases h2 with
 | lst _=>cases e6
 | qO kk hv=>
   obtain ⟨k,e7,e8⟩:=bind1 e6
   split at e8
   ·rename_i hz
    cases e8
    refine ⟨U,A0,δ,d,R,e1,fun v H1 s1 YK=>⟨.ref l,hl,U,A0,δ,y,R.same s1,e5,fun v2 H2 s2 h3=>?_⟩⟩
    obtain ⟨b,rfl,hb⟩:=h3.key e7
    have dk:=DK.of kk hv
    have hlen:=dk.len
    have YL:=dk.same (cq (A:=U ++ A0) (s1.trans s2))
    refine ⟨l,_,rfl,Cm.t ((s1.trans s2) _ _ h1) hb (Ct (by omega)),?_⟩
    exact P U σ _ ((R.same (s1.trans s2)).MQ hi hl hU (YL.put k (YK.same (cq s2))).own ⟨_,join_some e3⟩) ((F.grow (s1.trans s2)).put hU _)
   ·cases e8
theorem zR {i:Nat} (h:PS X st (qV (W7 X.K O gl) (jN i))) (hi:i∈O:=by decide):PS X st (tS X.K O fr (Dd i gl)):=h.mono fun E σ H hh=>hh.e fun H0 U A0 δ r R F ed P=>by
 obtain ⟨d,e1,e2⟩:=bind1 ed
 cases e2
 exact ⟨U,A0,δ,d,R,e1,fun r aQ H' s hr h1 h2=>P (r :: U) _ H' (R.MO s hr h1 h2.own hi) (F.more s hr)⟩
theorem Rel.Nr {K:PySem.W.Frag} {O:List Nat} {U A0:List Addr} {σ:St} {δ:DS} {H H':Hp} (R:Rel K O U A0 σ δ H) (s:aH H H') {r:Addr} {o:HO} (hr:H r=none) (h:H' r=some o) (ho:FK o):Rel K O U (r :: A0) σ δ H':=by
 have k:aH (wo H (U ++ A0)) (wo H' (U ++ (r :: A0))):=fun b o q=>by
  obtain ⟨h1,h2⟩:=kB q
  rw [cj]
  ·exact s b o h2
  ·simp only [List.mem_append,List.mem_cons,not_or] at h1 ⊢
   exact ⟨h1.1,aV h2 hr,h1.2⟩
 exact {
  len:=R.len
  fz:=fun i d hi e=>let ⟨v,a,b⟩:=R.fz i d hi e; ⟨v,a,b.same k⟩
  ow:=fun i d hi e=>let ⟨l,o,a,c,f,g⟩:=R.ow i d hi e; ⟨l,o,a,c,s _ _ f,g.same k⟩
  inj:=R.inj
  al:=⟨fun a ha=>by
   simp only [List.mem_append,List.mem_cons] at ha
   rcases ha with z | z | z
   ·exact (R.al.same s).1 a (by simp [z])
   ·subst z; exact ⟨_,h,ho⟩
   ·exact (R.al.same s).1 a (by simp [z]),(R.al.same s).2⟩ }
def Kq (tk tv:TE):TE:=fun σ H Q=>∀ p,H p=none->xH [(tk,tv)] σ (upd H p (.dT [])) fun ps H2=>H2 p=some (.dT []) /\ ∃ b ks y,ps=[(.ref b,y)] /\ dw H2 b (ks.map kV) /\ Q (.ref p) (upd H2 p (.dT [(ks,y)]))
theorem De {k v:Expr} {tk tv:TE} (hu:X.A.units + 1 < cLine) (hk:PE X k tk) (hv:PE X v tv):PE X (.Dict [some k] [v] pos) (Kq tk tv):=by
 intro pins s σ H Q I q
 have hn:=I.cg.fresh (Nat.le_refl s.heap.objs.size)
 have I1:=I.laid (a:=s.heap.objs.size) (o:=.dT []) (h':=s.heap.push { cls:=.type "dict",data:=.dict #[] }) (t':=s.toks) (fun _ _ q=>Heap.get?_push_of_some _ q) (Nat.le_refl _) (Co s.heap I.Py)
 have pp:Oy X pos [some k] [v] [(tk,tv)]:=Cp hk hv FF
 refine wpAny_Dict_any rfl rfl (by simp) (by simp) (dZ (pp pins _ σ _ _ I1 (q _ hn)) fun ws s2 ⟨ps,H2,I2,rel,e,b,ks,y,e2,e4,q2⟩=>?_)
 subst e2
 cases rel with
 | @cons _ w _ _ h t=>
   cases t
   obtain ⟨u1,u2⟩:=w
   obtain ⟨r1,r2⟩:=h
   cases (show u1=Value.ref b from r1)
   have hf:storeAll s.heap.objs.size [(Value.ref b,u2)]=(do dictSet s.heap.objs.size (Value.ref b) u2):=by
    unfold storeAll
    rw [List.forIn_cons]
    simp
   rw [hf]
   obtain ⟨z,hd,xs,rl,dd⟩:=HU I2.cg e
   cases rl
   refine wpAny_dictSet_heap (show X.A.units < cLine by omega) (pH I2.cg e4) dd (fun h' LH hs=>⟨.ref s.heap.objs.size,_,?_,rfl,q2⟩) (Nat.zero_le _)
   obtain ⟨q,es,ep,hq,h2,h3,h4,_,h5⟩:=LH
   have Qs:KT H2 [] []:=.nil
   refine sS I2 (by rw [e]; exact True.intro) hs ⟨q,hq⟩ ⟨small (by simp),hd,_,(Qs.put ks e4 r2).keeps fun c ys ec=>?_,q,es,ep,hq,h2,h3,h4,h5⟩
   exact ec.dT e
theorem vO {k v:Expr} (hu:X.A.units + 1 < cLine) (hk:PE X k (jl X.K O gk)) (hv:PE X v (tE X.K O ge)):PE X (.Dict [some k] [v] pos) (W7 X.K O (ym gk ge)):=(De hu hk hv).mono fun σ H Q ⟨U,A0,δ,d,R,ed,q⟩ p hp=>by
 obtain ⟨y,e1,e2⟩:=bind1 ed
 obtain ⟨d',e3,e4⟩:=bind1 e2
 obtain ⟨ks,e5,e6⟩:=bind1 e4
 cases e6
 have s0:=cD hp (.dT [])
 have R0:Rel X.K O U (p :: A0) σ δ (upd H p (.dT [])):=R.Nr s0 hp bR trivial
 refine ⟨U,p :: A0,δ,y,R0,e1,fun v H1 s1 h1=>⟨U,p :: A0,δ,d',R0.same s1,e3,fun w H2 s2 h2=>?_⟩⟩
 obtain ⟨b,rfl,hb⟩:=(h1.same s2).key e5
 have Nk:H2 p=some (.dT []):=(s1.trans s2) _ _ bR
 refine ⟨Nk,b,ks,w,rfl,hb,q p _ _ (s0.trans (s1.trans s2) |>.upd hp _) hp bR ?_⟩
 have ew:wo (upd H2 p (.dT [(ks,w)])) (p :: (U ++ A0))=wo H2 (p :: (U ++ A0)):=Cz (by simp)
 rw [ew]
 exact .cons (h2.same (lI fun a ha=>by simp only [List.mem_append,List.mem_cons] at ha ⊢; rcases ha with z | z | z; exact .inr (.inl z); exact .inl z; exact .inr (.inr z))) .nil
end
end L2
namespace LS
open PySem PySem.Spec PyProof.Rows
section
variable {prog:Program} {w:World} {A:Around} {E:Value->Shared->Prop} {s:Shared}
theorem Qt {T nw:String} {Bn:Builtin} {us:List Value} {kw:List (Str×Value)} {S:PySem.Spec} {Q:Value->Shared->Prop} (ft:TypeCalled T nw "object.__init__") (c1:checkTypeCall T ⟨us,kw⟩=pure ()) (c2:checkBuiltinCall nw ⟨.type T :: us,kw⟩=pure ())
  (en:entryFor table nw=some Bn) (g:Meets (Bn ⟨.type T :: us,kw⟩) S) (c3:∀ o,argsOk "object.__init__" ⟨o :: us,kw⟩) (gi:∀ o,Meets (Builtin.«object.__init__» ⟨o :: us,kw⟩) (fun _ R s=>s.TypeIs o T /\ R (.ok (.ret .none)) s))
  (h:S A.in1 (wants (fun o s1=>s1.TypeIs o T /\ Q o s1) E) s):wpAny (model prog w) A (call (.type T) us kw) Q E s:=by
 obtain ⟨hc,tl,hm⟩:=ft.mro
 have k1:=ft.made
 have k2:=ft.sub
 have k3:=ft.notType
 have k4:=ft.canCreate
 refine wpAny_call (codeAny_of_tree (show wpAny _ _ (callAny (.type T) _) _ _ _ from wpAny_pure ⟨Code.quiet_builtin _ (by decide +kernel),codeAny_builtin F.entry_type_call ?_⟩))
 rw [Around.under_plain (weight_type_call_type T us kw) (units_type_call_type T us kw)]
 repeat any_goals first | assumption | wp_step
 refine codeAny_mono (codeAny_call_builtin ft.plain en (wpAny_of_eq c2 (g prog w A.in1 _ s h))) fun r s1 hr=>?_
 cases r with
 | error e=>exact hr
 | ok fl=>
   cases fl with
   | ret o=>
     obtain ⟨hT,hq⟩:=hr
     have k5:=ft.init.lookup
     have k6:=ft.init.bind o
     repeat any_goals first | assumption | wp_step
     refine codeAny_mono (codeAny_call_builtin ft.init.plain F.entry_object_init (ft.init.check _ _ _ _ _ _ _ _ hT (c3 o) (gi o prog w A.in1 (wants (fun r s2=>r=.none /\ Q o s2) E) s1 ⟨hT,rfl,hq⟩))) fun r2 s2 Nt=>?_
     cases r2 with
     | error e=>exact Nt
     | ok f2=>
       cases f2 with
       | ret r=>
         obtain ⟨rfl,q2⟩:=Nt
         repeat any_goals first | assumption | wp_step
       | _=>exact Nt.elim
   | _=>exact hr.elim
end
theorem initK {T nw:String} {o:Value} {us:List Value} {kw:List (Str×Value)} (hl:typeLookup (.type T) "__init__"=pure (some (.builtin "object.__init__"))) (hm:Bind.madeBy (.type T)=pure (some nw)) (iJ:(some nw != some "object.__new__")=true) (u:Value):
  Meets (Builtin.«object.__init__» ⟨o :: u :: us,kw⟩) (fun _ R s=>s.TypeIs o T /\ R (.ok (.ret .none)) s):=by
 refine Meets.of_wp fun prog w A R s hs=>?_
 obtain ⟨hT,hq⟩:=hs
 repeat any_goals first | assumption | wp_step
 exact ⟨_,rfl,hq⟩
theorem YM (a b:Value):checkTypeCall "enumerate" ⟨[a],[("start",b)]⟩=pure ():=by kernel_rfl
theorem YN (a b:Value):checkBuiltinCall "enumerate.__new__" ⟨[.type "enumerate",a],[("start",b)]⟩=pure ():=by kernel_rfl
theorem YO (o a b:Value):argsOk "object.__init__" ⟨[o,a],[("start",b)]⟩:=by kernel_rfl
set_option maxHeartbeats 1000000 in
set_option tactic.hygienic true in
theorem Qu (l:Addr) (items:Array Value) (n:Nat) (qO:Option Addr) (sl:Array (Option Value)) (t:Tok):
  Meets (Builtin.«enumerate.__new__» ⟨[.type "enumerate",.ref l],[("start",.int 1 t)]⟩) (fun _ R s=>s.heap.get? l=some { cls:=.type "tuple",dict:=qO,data:=.seq items n,slots:=sl } /\
   R (.ok (.ret (.ref (s.heap.push { cls:=.type "tuple_iterator",data:=.fields #[.ref l,.int 0 0] }).objs.size)))
     { s with heap:=(s.heap.push { cls:=.type "tuple_iterator",data:=.fields #[.ref l,.int 0 0] }).push { cls:=.type "enumerate",data:=.fields #[.none,.bool false,.ref s.heap.objs.size,rawInt 1,.none,.none] } }):=
 .of_wp fun prog w A R s h=>by
  obtain ⟨hp,g,d,tk,os⟩:=s; obtain ⟨hl,h⟩:=h
  have Bb:=sub_enumerate
  have hL:Heap.IsTuple (Shared.heap ⟨hp,g,d,tk,os⟩) l items:=⟨_,hl,rfl,n,rfl⟩
  wp_walk using AutoSeq1.wpAny_loadPart' hl
  refine wpAny_stack_any fun st=>wpAny_pure ?_
  split
  ·rename_i c _ _ _ _ _
   cases (c == Value.type "enumerate")
   ·wp_walk using AutoSeq1.wpAny_loadPart' hl,wpAny_pyIter_tuple hL
    exact ⟨_,rfl,h⟩
   ·wp_walk using AutoSeq1.wpAny_loadPart' hl,wpAny_pyIter_tuple hL
    exact ⟨_,rfl,h⟩
  ·wp_walk using AutoSeq1.wpAny_loadPart' hl,wpAny_pyIter_tuple hL
   exact ⟨_,rfl,h⟩
section
variable {prog:Program} {w:World} {A:Around} {E:Value->Shared->Prop} {s:Shared}
theorem yn {l:Addr} {items:Array Value} {t:Tok} {Q:Value->Shared->Prop} (hL:s.heap.IsTuple l items)
  (h:∀ h',IsEnum h' (s.heap.objs.size + 1) s.heap.objs.size 1 .none->h'.IsTupleIter s.heap.objs.size l 0->h'.objs.size=s.heap.objs.size + 2->(∀ b o,s.heap.get? b=some o->h'.get? b=some o)->Q (.ref (s.heap.objs.size + 1)) { s with heap:=h' }):
  wpAny (model prog w) A (call (.type "enumerate") [.ref l] [("start",.int 1 t)]) Q E s:=by
 obtain ⟨⟨c,qO,dt,sl⟩,hl,hc,n,hd⟩:=hL
 simp only at hc hd
 subst hc hd
 refine Qt PySem.F.called_enumerate (YM _ _) (YN _ _) PySem.F.entry_enumerate_new (Qu l items n qO sl t) (fun o=>YO o _ _) (fun o=>initK PySem.F.called_enumerate.init.lookup PySem.F.called_enumerate.made (by decide) _) ⟨hl,?_⟩
 have hz:(s.heap.push { cls:=.type "tuple_iterator",data:=.fields #[.ref l,.int 0 0] }).objs.size=s.heap.objs.size + 1:=Heap.size_push ..
 show _ /\ _
 rw [hz]
 have he:IsEnum ((s.heap.push { cls:=.type "tuple_iterator",data:=.fields #[.ref l,.int 0 0] }).push { cls:=.type "enumerate",data:=.fields #[.none,.bool false,.ref s.heap.objs.size,rawInt 1,.none,.none] }) (s.heap.objs.size + 1) s.heap.objs.size 1 .none:=by
  have q:=Heap.get?_push_size (s.heap.push { cls:=.type "tuple_iterator",data:=.fields #[.ref l,.int 0 0] }) (o:={ cls:=.type "enumerate",data:=.fields #[.none,.bool false,.ref s.heap.objs.size,rawInt 1,.none,.none] }) rfl
  rw [hz] at q; exact q
 exact ⟨⟨_,he,rfl⟩,h _ he ⟨_,Heap.get?_push_of_some _ (Heap.get?_push_size _ rfl),rfl,rfl⟩ (by rw [Heap.size_push,hz]) fun b o x=>Heap.get?_push_of_some _ (Heap.get?_push_of_some _ x)⟩
theorem vP {it:Addr} {fp:List Addr} {n:Nat} {P:Nat->Value->Prop} {St:Nat->Heap->Prop} (d:Draws prog w A it fp n P St):Draws prog w A it fp (n + 1) (fun i v=>∃ j,i=j + 1 /\ P j v) (fun i h=>∃ j,i=j + 1 /\ St j h) where
 live:=fun _ h ⟨j,_,q⟩=>d.live j h q
 frame:=fun _ h h' ⟨j,e,q⟩ k=>⟨j,e,d.frame j h h' q k⟩
 item:=fun i s Q E hi ⟨j,e,q⟩ hQ=>d.item j s Q E (by omega) q fun x h' tk p st sb=>hQ x h' tk ⟨j,e,p⟩ ⟨j + 1,by omega,st⟩ sb
 done:=fun s Q E ⟨j,e,q⟩ hE=>d.done s Q E ((show j=n by omega) ▸ q) hE
theorem p8 {M:Model} {env:Env} {pos:Pos} {T:String} {e:Expr} {es:List Expr} {kws:List Keyword} {Q:Value->Shared->Prop}
  (h:wpAny M A (spliced (backTo pos (starEach (e :: es) env))) (fun vs s1=>wpAny M A (evalAll ((backToKw pos (keywordEach kws env)).map (·.2))) (fun ks s2=>wpAny M A (call (.type T) vs (((backToKw pos (keywordEach kws env)).filterMap (·.1)).zip ks)) Q E s2) E s1) E s)
  (he:backTo pos (starEach (e :: es) env)=(false,eval e env) :: backTo pos (starEach es env)) (hp:(backTo pos (starEach (e :: es) env)).any (·.1)=false) (ha:(backToKw pos (keywordEach kws env)).all (·.1.isSome)=true) (hk:(backToKw pos (keywordEach kws env)).any (·.1.isNone)=false):
  wpAny M A (callWith pos (.type T) [] (backTo pos (starEach (e :: es) env)) (backToKw pos (keywordEach kws env))) Q E s:=by
 have h1:wpAny M A (evalArgs (.type T) true (backTo pos (starEach (e :: es) env)) (backToKw pos (keywordEach kws env))) (fun a s1=>wpAny M A (call (.type T) a.pos a.kw) Q E s1) E s:=by
  rw [he] at h ⊢
  exact evalArgs_kwB ha h
 unfold callWith
 refine wpAny_bind (wpAny_holding (wpAny_mono h1 (fun a s1 q=>wpAny_bind (wpAny_standAt ?_)) fun _ _ x=>x))
 simp only [hp,hk,Bool.or_false]
 exact wpAny_bind (wpAny_pure (wpAny_bind (wpAny_mono q (fun r s2 hr=>wpAny_bind (wpAny_holding (wpAny_point (wpAny_pure hr)))) fun _ _ x=>x)))
end
end LS
namespace L2
open PySem PySem.Spec PyProof.Rows LS
def Nu (K:PySem.W.Frag) (a:Addr):It:=
 ⟨fun i H=>∃ xs x,jn K H a xs /\ xs[i]?=some x,fun i H x H'=>∃ p v,H p=none /\ x=.ref p /\ H'=upd H p (.tup [.int ((i:Int) + 1),v]) /\ ∀ xs,jn K H a xs->xs[i]?=some v,fun i H=>∃ xs,jn K H a xs /\ xs.length=i⟩
theorem yo {P:Program} {w:World} {K:PySem.W.Frag} {es:List Expr} {kk} {iW:Pos} (a e it:Addr) (iJ:e≠it):Turn P w K (.Tuple es kk iW) (Nu K a) [e,it] e (fun i h=>(∃ old,IsEnum h e it ((i:Int) + 1) old) /\ h.IsTupleIter it a i) where
 mem:=by simp
 obj:=fun i h st b hb=>by
  obtain ⟨⟨old,he⟩,o,ho,c,d⟩:=st
  rcases List.mem_cons.mp hb with z | z
  ·subst z; exact ⟨_,he,fun v z=>by cases z⟩
  ·have z:b=it:=by simpa using z
   subst z; exact ⟨o,ho,fun v z=>by rw [d] at z; cases z⟩
 keep:=fun i h h' st k=>by
  obtain ⟨⟨old,he⟩,cM⟩:=st
  exact ⟨⟨old,k e (by simp) _ he⟩,cM.at fun o eo=>k it (by simp) o eo⟩
 item:=by
  intro X hP hw hK hc i pins s σ H E I hf st hg
  subst hP hw hK
  obtain ⟨xs,x,hq,hx⟩:=hg
  obtain ⟨its,rv,p,hz⟩:=I.tuple hq
  obtain ⟨u,hu,ru⟩:=rv.get hx
  obtain ⟨⟨old,he⟩,cM⟩:=st
  have hp:s.heap.IsTuple a its.toArray:=p
  have Qq:e≠a:=fun z=>by
   obtain ⟨o,ho,nO,_⟩:=hp
   rw [<- z] at ho
   have:=ho.symm.trans he
   cases this
   exact absurd (Value.type.inj nO) (by decide)
  have Kn:a≠it:=fun z=>by
   obtain ⟨o,ho,nO,_⟩:=hp
   obtain ⟨o2,nq,p0,_⟩:=cM
   rw [z] at ho
   have:=ho.symm.trans nq
   cases this
   rw [nO] at p0
   exact absurd (Value.type.inj p0) (by decide)
  have Iy:i < its.toArray.size:=by
   have:=(List.getElem?_eq_some_iff.mp hu).1
   simpa using this
  refine wpAny_pyNext_enum_itemD (i:=i + 1) (LS.vP (iO (A:=X.A.in1) (I.ok.hd hc) it a Kn its.toArray)) (by push_cast; exact he) ⟨i,rfl,cM,hp⟩ (Nat.succ_lt_succ Iy) iJ (by simp [iJ,Qq]) fun y h1 tk hy AA C9 LK FZ A8=>?_
  obtain ⟨j,ej,hy⟩:=hy
  obtain ⟨j',YQ,C9⟩:=C9
  cases ej
  cases YQ
  push_cast at AA LK
  have Qr:y=u:=by
   have h3:its.toArray[i]?=some u:=by simpa using hu
   have h4:its.toArray[i]?=some y:=hy
   rw [h3] at h4; cases h4; rfl
  subst Qr
  refine ⟨_,rfl,wpAny_letOwnedTupleGo_enum AA fun h2 JS kA=>?_⟩
  replace kA:Heap.SameBut e h1 h2:=kA
  have Ij:e < s.heap.objs.size:=Heap.lt_size he
  have I1:Inv X pins σ H { s with heap:=h2,toks:=tk + 1 }:=I.fV (t':=tk + 1) (ch:=[e,it]) (fun b o hb eo=>by
   simp only [List.mem_cons,List.not_mem_nil,or_false,not_or] at hb
   exact (kA.2 b hb.1).trans (A8 b o hb.1 hb.2 eo)) hf
  have J5:IsTup h2 s.heap.objs.size [Value.int ((i:Int) + 1) tk,y].toArray:=⟨_,(kA.2 _ (Nat.ne_of_gt Ij)).trans LK,rfl,_,rfl⟩
  have mV:H s.heap.objs.size=none:=I.cg.fresh (Nat.le_refl _)
  have fo:=I.mG (H':=H) (Nat.le_refl _) mV
  have I2:Inv X pins σ (upd H s.heap.objs.size (.tup [.int ((i:Int) + 1),x])) { s with heap:=h2,toks:=tk + 1 }:=I1.ti mV (Nat.le_trans I.sz (Nat.le_refl _)) fo.2.1 fo.2.2.2.2.1 fo.2.2.2.2.2 J5 (.cons ⟨_,rfl⟩ (.cons ru .nil)) (by show 2<=sizeLine; decide)
  refine ⟨.ref s.heap.objs.size,_,I2,rfl,⟨_,x,mV,rfl,rfl,fun ys hy=>by rw [I.nu hy hq]; exact hx⟩,⟨⟨y,by push_cast; exact JS⟩,C9.1.extBut kA.extBut (Ne.symm iJ)⟩,fun b hb=>?_⟩
  have fR:b < s.heap.objs.size:=by
   rcases List.mem_cons.mp hb with z | z
   ·subst z; exact Ij
   ·have z:b=it:=by simpa using z
    subst z
    obtain ⟨o,ho,_⟩:=cM
    exact Heap.lt_size ho
  rw [aR (Nat.ne_of_lt fR)]
  exact (hf b hb).1
 done:=by
  intro X hP hw hK hc i pins s σ H E I hf st hg
  subst hP hw hK
  obtain ⟨xs,hq,hx⟩:=hg
  obtain ⟨its,rv,p,hz⟩:=I.tuple hq
  obtain ⟨⟨old,he⟩,cM⟩:=st
  have hp:s.heap.IsTuple a its.toArray:=p
  have Kn:a≠it:=fun z=>by
   obtain ⟨o,ho,nO,_⟩:=hp
   obtain ⟨o2,nq,p0,_⟩:=cM
   rw [z] at ho
   have:=ho.symm.trans nq
   cases this
   rw [nO] at p0
   exact absurd (Value.type.inj p0) (by decide)
  have hl:=rv.length
  have hsz:its.toArray.size=i:=by rw [List.size_toArray,<- hl]; exact hx
  refine wpAny_pyNext_enum_endD (LS.vP (iO (A:=X.A.in1) (I.ok.hd hc) it a Kn its.toArray)) he ⟨_,rfl,by rw [hsz]; exact cM,hp⟩ fun h1 eb=>⟨rfl,?_⟩
  exact I.fV (t':=s.toks) (ch:=[e,it]) (fun b o hb eo=>eb b o (fun z=>hb (by simp [z])) eo) hf
 self:=fun _ _ _ _ _ st h=>by
  obtain ⟨⟨old,he⟩,_⟩:=st
  exact wpAny_pyIter_enum he h
section
variable {X:Cx} {O:List Nat} {a:Expr} {ge:DS->Option D} {p pos:Pos} {es:List Expr} {kk} {iW:Pos}
def Kr (K:PySem.W.Frag) (ta:TA):TI:=fun σ H R=>ta σ H fun vs H1=>∃ a xs,vs=[.ref a] /\ jn K H1 a xs /\ R (Nu K a) H1
theorem Dg {ta:TA} {jj} {cp kp:Pos} (hg:Gl X "enumerate") (hm:X.mg "enumerate"=none) (ha:PA X [a] ta) (hs:starEach [a] X.env=[(false,eval a X.env)]:=by rfl):PI X (.Tuple es kk iW) (.Call (.Name "enumerate" p) [a] [⟨some "start",.Constant (.int 1) jj cp,kp⟩] pos) (Kr X.K ta):=by
 intro pins s σ H R I h
 refine wpAny_Call_Name_kw (iB I hg hm jr (LS.p8 (dZ (ha pos pins s σ H _ I h) fun us s1 ⟨vs,H1,I1,r1,q1⟩=>?_) (by rw [hs]; rfl) (by rw [hs]; rfl) rfl rfl))
 obtain ⟨b,xs,e,hq,q⟩:=q1
 subst e
 obtain ⟨u,rfl,ru⟩:=vals1 r1
 cases ru
 refine PyProof.Rows.evalAll_cons (wpAny_bind (dZ (ah pins s1 σ H1 (fun v H2=>v=V.int 1 /\ H2=H1) I1 ⟨rfl,rfl⟩) fun kv s2 ⟨v,H2,I2,E1,e1,e2⟩=>wpAny_bind (wpAny_standAt (wpAny_pure (PyProof.Rows.evalAll_nil ?_)))))
 subst e1 e2
 obtain ⟨t,rfl⟩:=E1
 obtain ⟨its,rv,pl,hz⟩:=I2.tuple hq
 refine LS.yn (show s2.heap.IsTuple b its.toArray from pl) fun h' he hit hsz hk=>?_
 refine wpAny_pyIter_enum he ?_
 refine ⟨s2.heap.objs.size + 1,[s2.heap.objs.size + 1,s2.heap.objs.size],_,_,H2,rfl,I2.kept (t':=s2.toks) hk,yo b _ s2.heap.objs.size (Nat.succ_ne_self _),⟨⟨_,he⟩,hit⟩,fun b hb=>?_,q⟩
 have hle:s2.heap.objs.size<=b:=by
  simp only [List.mem_cons,List.not_mem_nil,or_false] at hb
  rcases hb with z | z
  ·rw [z]; exact Nat.le_succ _
  ·rw [z]; exact Nat.le_refl _
 exact I2.mG hle (I2.cg.fresh hle)
def oC (l:List D):List D:=(l.zipIdx 1).map fun p=>.tuple [.int (p.2:Nat),p.1]
theorem Bl (l:List D):(oC l).length=l.length:=by unfold oC; simp
theorem Bm {l:List D} {i:Nat} {d:D} (h:(oC l)[i]?=some d):∃ x,l[i]?=some x /\ d=.tuple [.int ((i:Int) + 1),x]:=by
 unfold oC at h
 rw [List.getElem?_map,List.getElem?_zipIdx] at h
 cases e:l[i]? with
 | none=>rw [e] at h; cases h
 | some x=>
   rw [e] at h
   simp only [Option.map_some,Option.some.injEq] at h
   refine ⟨x,rfl,?_⟩
   rw [<- h]
   push_cast
   rw [Int.add_comm]
def Dh (g:DS->Option D):DS->Option (List D):=fun δ=>(g δ).bind fun | .tuple l=>some (oC l) | _=>none
theorem Di {jj} {cp kp:Pos} (hm:X.mg "enumerate"=none) (ha:PE X a (tE X.K O ge)) (hg:Gl X "enumerate":=by rfl) (hs:starEach [a] X.env=[(false,eval a X.env)]:=by rfl) (M4:starEach ([]:List Expr) X.env=[]:=by rfl):PI X (.Tuple es kk iW) (.Call (.Name "enumerate" p) [a] [⟨some "start",.Constant (.int 1) jj cp,kp⟩] pos) (tI X.K O (Dh ge)):=
 (Dg hg hm (cn ha dz (by rw [hs,M4])) hs).mono fun σ H Q hh=>hh.e fun U A0 δ ds R ed q=>by
  obtain ⟨x,e1,e2⟩:=bind1 ed
  cases x with
  | tuple l=>
    cases e2
    refine ⟨U,A0,δ,_,R,e1,fun v H' s h=>?_⟩
    cases h with
    | tup hq h=>
      refine ⟨_,_,rfl,.inl (cb.lH hq),q _ H' s ?_⟩
      intro A' i H2 s2 al
      have h2:=h.same s2
      have hL:jn X.K H2 _ _:=.inl (cb.lH (s2.lH hq))
      refine ⟨fun d hd=>?_,fun hi=>⟨_,hL,by rw [hi,Bl,h2.len]⟩⟩
      obtain ⟨y,hy,rfl⟩:=Bm hd
      obtain ⟨v,hv,M5⟩:=h2.get hy
      refine ⟨⟨_,v,hL,hv⟩,fun z H3 hz=>?_⟩
      obtain ⟨p,v',hp,rfl,rfl,M6⟩:=hz
      have:=M6 _ hL
      rw [hv] at this
      cases this
      exact ⟨cD hp _,HD.sY al hp (.cons (.int _) (.cons M5 .nil))⟩
  | _=>cases e2
end
def W9 (K:PySem.W.Frag) (a b:Addr):It:=
 ⟨fun i H=>∃ xs ys x y,iC K H a xs /\ iC K H b ys /\ xs[i]?=some x /\ ys[i]?=some y,fun i H v H'=>∃ p x y,H p=none /\ v=.ref p /\ H'=upd H p (.tup [x,y]) /\ (∀ xs,iC K H a xs->xs[i]?=some x) /\ ∀ ys,iC K H b ys->ys[i]?=some y,fun i H=>∃ xs ys,iC K H a xs /\ iC K H b ys /\ min xs.length ys.length=i⟩
theorem Dj {P:Program} {w:World} {K:PySem.W.Frag} {es:List Expr} {kk} {iW:Pos} (l1 l2 z TI TO i1 i2:Addr) (D:ZipApart z TI TO i1 i2 l1 l2):Turn P w K (.Tuple es kk iW) (W9 K l1 l2) [z,TI,TO,i1,i2] z (fun i h=>IsZip h z TI TO .none /\ IsPair h TI (.ref i1) (.ref i2) /\ (∃ a b,IsPair h TO a b) /\ h.IsListIter i1 l1 i /\ h.IsListIter i2 l2 i) where
 mem:=by simp
 obj:=fun i h st b hb=>by
  obtain ⟨h1,h2,⟨a,c,h3⟩,⟨o4,h4,_,d4⟩,o5,h5,_,d5⟩:=st
  simp only [List.mem_cons,List.not_mem_nil,or_false] at hb
  rcases hb with rfl | rfl | rfl | rfl | rfl
  ·exact ⟨_,h1,fun v z=>by cases z⟩
  ·exact ⟨_,h2,fun v z=>by cases z⟩
  ·exact ⟨_,h3,fun v z=>by cases z⟩
  ·exact ⟨o4,h4,fun v z=>by rw [d4] at z; cases z⟩
  ·exact ⟨o5,h5,fun v z=>by rw [d5] at z; cases z⟩
 keep:=fun i h h' st k=>by
  obtain ⟨h1,h2,⟨a,c,h3⟩,h4,h5⟩:=st
  exact ⟨k z (by simp) _ h1,k TI (by simp) _ h2,⟨a,c,k TO (by simp) _ h3⟩,h4.at fun o e=>k i1 (by simp) o e,h5.at fun o e=>k i2 (by simp) o e⟩
 item:=by
  intro X hP hw hK hc i pins s σ H E I hf st hg
  subst hP hw hK
  obtain ⟨xs,ys,x,y,Ga,A2,hx,hy⟩:=hg
  obtain ⟨t1,OG,p1,FZ⟩:=I.list Ga
  obtain ⟨t2,E1,p2,Xa⟩:=I.list A2
  obtain ⟨u1,Xb,YR⟩:=OG.get hx
  obtain ⟨u2,Xc,YS⟩:=E1.get hy
  obtain ⟨s1,s2,s3,s4,s5⟩:=st
  have W:=WalksT.zip2 (prog:=X.prog) (w:=X.w) (A:=X.A) (I.ok.hd hc) z TI TO i1 i2 l1 l2 D t1.toArray t2.toArray
  have hi:i < min t1.toArray.size t2.toArray.size:=by
   have a:=(List.getElem?_eq_some_iff.mp Xb).1
   have b:=(List.getElem?_eq_some_iff.mp Xc).1
   simp only [List.size_toArray]; omega
  refine W.item i s _ E hi ⟨s1,s2,s3,s4,s5,p1.isList,p2.isList⟩ fun T vals h1 tk hv hT ht hm hk=>⟨_,rfl,W.go _ _ _ i T _ _ _ hm fun h2 cM CS=>?_⟩
  obtain ⟨x',y',e1,e2,rfl⟩:=hv
  have LP:x'=u1:=by
   have:t1.toArray[i]?=some u1:=by simpa using Xb
   rw [this] at e1; cases e1; rfl
  have Ir:y'=u2:=by
   have:t2.toArray[i]?=some u2:=by simpa using Xc
   rw [this] at e2; cases e2; rfl
  subst LP Ir
  have YT:=W.apart i T h1 hm
  have I1:Inv X pins σ H { s with heap:=h2,toks:=tk }:=I.fV (t':=tk) (ch:=[z,TI,TO,i1,i2]) (fun b o hb eo=>by
   have vQ:b∉[z,TO,i1,i2]:=fun q=>hb (by simp only [List.mem_cons,List.not_mem_nil,or_false] at q ⊢; rcases q with q | q | q | q <;> simp [q])
   exact CS b o vQ (hk b o vQ eo)) hf
  have J5:IsTup h2 T [x',y'].toArray:=by
   obtain ⟨o,ho,c,n,d⟩:=ht
   exact ⟨o,CS T o YT ho,c,n,d⟩
  have mV:H T=none:=I.cg.fresh hT
  have fo:=I.mG (H':=H) hT mV
  have I2:Inv X pins σ (upd H T (.tup [x,y])) { s with heap:=h2,toks:=tk }:=I1.ti mV (Nat.le_trans I.sz hT) fo.2.1 fo.2.2.2.2.1 fo.2.2.2.2.2 J5 (.cons YR (.cons YS .nil)) (by show 2<=sizeLine; decide)
  obtain ⟨r1,r2,r3,r4,r5,_,_⟩:=cM
  refine ⟨.ref T,_,I2,rfl,⟨T,x,y,mV,rfl,rfl,fun zs hz=>by rw [I.mF hz Ga]; exact hx,fun zs hz=>by rw [I.mF hz A2]; exact hy⟩,⟨r1,r2,r3,r4,r5⟩,fun b hb=>?_⟩
  have fR:b < s.heap.objs.size:=by
   obtain ⟨a,c,s3⟩:=s3
   obtain ⟨o4,s4,_⟩:=s4
   obtain ⟨o5,s5,_⟩:=s5
   simp only [List.mem_cons,List.not_mem_nil,or_false] at hb
   rcases hb with q | q | q | q | q
   ·rw [q]; exact Heap.lt_size s1
   ·rw [q]; exact Heap.lt_size s2
   ·rw [q]; exact Heap.lt_size s3
   ·rw [q]; exact Heap.lt_size s4
   ·rw [q]; exact Heap.lt_size s5
  rw [aR (Nat.ne_of_lt (Nat.lt_of_lt_of_le fR hT))]
  exact (hf b hb).1
 done:=by
  intro X hP hw hK hc i pins s σ H E I hf st hg
  subst hP hw hK
  obtain ⟨xs,ys,Ga,A2,hx⟩:=hg
  obtain ⟨t1,OG,p1,FZ⟩:=I.list Ga
  obtain ⟨t2,E1,p2,Xa⟩:=I.list A2
  obtain ⟨s1,s2,s3,s4,s5⟩:=st
  have W:=WalksT.zip2 (prog:=X.prog) (w:=X.w) (A:=X.A) (I.ok.hd hc) z TI TO i1 i2 l1 l2 D t1.toArray t2.toArray
  have a1:=OG.length
  have a2:=E1.length
  have hi:min t1.toArray.size t2.toArray.size=i:=by simp only [List.size_toArray]; omega
  refine W.done s _ E (by rw [hi]; exact ⟨s1,s2,s3,s4,s5,p1.isList,p2.isList⟩) fun h1 tk hk=>⟨rfl,?_⟩
  exact I.fV (t':=tk) (ch:=[z,TI,TO,i1,i2]) (fun b o hb eo=>hk b o (fun q=>hb (by simp only [List.mem_cons,List.not_mem_nil,or_false] at q ⊢; rcases q with q | q | q | q <;> simp [q])) eo) hf
 self:=fun _ _ _ _ _ st h=>wpAny_pyIter_zip st.1 h
theorem Ks:bootBuiltins "zip"=some (.type "zip"):=by decide +kernel
section
variable {X:Cx} {O:List Nat} {a b:Expr} {ga gb:DS->Option D} {p pos:Pos} {es:List Expr} {kk} {iW:Pos}
def Qv (K:PySem.W.Frag) (ta:TA):TI:=fun σ H R=>ta σ H fun vs H1=>∃ a b xs ys,vs=[.ref a,.ref b] /\ iC K H1 a xs /\ iC K H1 b ys /\ R (W9 K a b) H1
theorem Kt {ta:TA} (hg:Gl X "zip") (hm:X.mg "zip"=none) (ha:PA X [a,b] ta) (hs:starEach [a,b] X.env=(false,eval a X.env) :: starEach [b] X.env:=by rfl) (kA:(backTo pos (starEach [b] X.env)).any (·.1)=false:=by rfl):PI X (.Tuple es kk iW) (.Call (.Name "zip" p) [a,b] [] pos) (Qv X.K ta):=by
 intro pins s σ H R I h
 refine wpAny_Call_Name_kw (iB I hg hm Ks (PyProof.Rows.callWith_type1 (dZ (ha pos pins s σ H _ I h) fun us s1 ⟨vs,H1,I1,r1,q1⟩=>?_) hs kA))
 obtain ⟨l1,l2,xs,ys,e,Ga,A2,q⟩:=q1
 subst e
 cases r1 with
 | cons r1 t1=>
   cases t1 with
   | cons r2 t2=>
     cases t2
     cases r1
     cases r2
     obtain ⟨t1,OG,p1,FZ⟩:=I1.list Ga
     obtain ⟨t2,E1,p2,Xa⟩:=I1.list A2
     have YU:l1 < s1.heap.objs.size:=by obtain ⟨o,ho,_⟩:=p1.isList; exact Heap.lt_size ho
     have jZ:l2 < s1.heap.objs.size:=by obtain ⟨o,ho,_⟩:=p2.isList; exact Heap.lt_size ho
     refine call_zip_2 p1.isList p2.isList fun h' hz YV YW YX YY hsz hk=>wpAny_pyIter_zip hz ?_
     refine ⟨s1.heap.objs.size + 4,[s1.heap.objs.size + 4,s1.heap.objs.size + 2,s1.heap.objs.size + 3,s1.heap.objs.size,s1.heap.objs.size + 1],_,_,H1,rfl,I1.kept (t':=s1.toks) hk,Dj l1 l2 _ _ _ _ _ (zipApart_new YU jZ),⟨hz,YV,⟨_,_,YW⟩,YX,YY⟩,fun b hb=>?_,q⟩
     have hle:s1.heap.objs.size<=b:=by
      simp only [List.mem_cons,List.not_mem_nil,or_false] at hb
      rcases hb with z | z | z | z | z
      ·rw [z]; exact Nat.le_add_right _ _
      ·rw [z]; exact Nat.le_add_right _ _
      ·rw [z]; exact Nat.le_add_right _ _
      ·rw [z]; exact Nat.le_refl _
      ·rw [z]; exact Nat.le_add_right _ _
     exact I1.mG hle (I1.cg.fresh hle)
def tH (x y:List D):List D:=List.zipWith (fun a b=>.tuple [a,b]) x y
def Gb (ga gb:DS->Option D):DS->Option (List D):=fun δ=>(ga δ).bind fun x=>(gb δ).bind fun y=>match x,y with
 | .list x,.list y=>some (tH x y)
 | _,_=>none
theorem Ku (hm:X.mg "zip"=none) (ha:PE X a (tE X.K O ga)) (hb:PE X b (tE X.K O gb)) (hg:Gl X "zip":=by rfl) (hs:starEach [a,b] X.env=(false,eval a X.env) :: starEach [b] X.env:=by rfl) (CW:starEach [b] X.env=(false,eval b X.env) :: starEach [] X.env:=by rfl) (kA:(backTo pos (starEach [b] X.env)).any (·.1)=false:=by rfl):PI X (.Tuple es kk iW) (.Call (.Name "zip" p) [a,b] [] pos) (tI X.K O (Gb ga gb)):=
 (Kt hg hm (cn ha (cn hb dz CW) hs) hs kA).mono fun σ H Q hh=>hh.e fun U A0 δ ds R ed q=>by
  obtain ⟨x,e1,e2⟩:=bind1 ed
  obtain ⟨y,e3,e4⟩:=bind1 e2
  refine ⟨U,A0,δ,x,R,e1,fun v H1 s1 h1=>⟨U,A0,δ,y,R.same s1,e3,fun v2 H2 s2 h2=>?_⟩⟩
  cases x with
  | list x=>
    cases y with
    | list y=>
      cases e4
      have Ih:=h1.same (cq (A:=U ++ A0) s2)
      cases Ih with
      | lst Ga d1=>
        cases h2 with
        | lst A2 d2=>
          refine ⟨_,_,_,_,rfl,(Ga.same cb).sq,(A2.same cb).sq,q _ H2 (s1.trans s2) ?_⟩
          intro A' i H3 s3 al
          have k1:=d1.same s3
          have k2:=d2.same s3
          have l1:iC X.K H3 _ _:=((Ga.same s3).same cb).sq
          have l2:iC X.K H3 _ _:=((A2.same s3).same cb).sq
          refine ⟨fun d hd=>?_,fun hi=>⟨_,_,l1,l2,by rw [hi,tH,List.length_zipWith,k1.len,k2.len]⟩⟩
          rw [tH,List.getElem?_zipWith] at hd
          cases ex:x[i]? with
          | none=>rw [ex] at hd; cases hd
          | some dx=>
            cases ey:y[i]? with
            | none=>rw [ex,ey] at hd; cases hd
            | some dy=>
              rw [ex,ey] at hd
              cases hd
              obtain ⟨vx,Xd,YZ⟩:=k1.get ex
              obtain ⟨vy,Xe,Y0⟩:=k2.get ey
              refine ⟨⟨_,_,vx,vy,l1,l2,Xd,Xe⟩,fun z H4 hz=>?_⟩
              obtain ⟨p,x',y',hp,rfl,rfl,f1,f2⟩:=hz
              have g1:=f1 _ l1
              have g2:=f2 _ l2
              rw [Xd] at g1; rw [Xe] at g2
              cases g1; cases g2
              exact ⟨cD hp _,HD.sY al hp (.cons YZ (.cons Y0 .nil))⟩
    | _=>cases e4
  | _=>cases e4
end
end L2
namespace L2
open PySem PySem.Spec PyProof.Rows
section
variable {X:Cx} {O:List Nat} {e:Expr}
theorem oD {p:Addr} {xs:List V} {ds:List D} (h:PE X e (tC (.ref p))) (m:(p,xs)∈b8) (hd:∀ H,cv X.K H xs ds):PE X e (tE X.K O (gC (.tuple ds))):=h.mono fun σ H Q hh=>hh.e fun U A0 δ d R ed q=>by
 cases ed
 exact q (.ref p) H (aH.refl H) (.tup (sU (R.al.2.1 p xs m) R.al) (hd _))
end
theorem Dk:∀ {l:List (Addr×List V)} {p:Addr} {xs:List V},l.lookup p=some xs->(p,xs)∈l
 | [],_,_,h=>by cases h
 | (q,ys) :: l,p,xs,h=>by
   rw [List.lookup_cons] at h
   by_cases e:p=q
   ·subst e
    rw [beq_self_eq_true] at h
    cases h
    exact List.mem_cons_self
   ·rw [show (p == q)=false by simpa using e] at h
    exact List.mem_cons_of_mem _ (Dk h)
def bx (K0:PySem.W.Frag):PySem.W.Frag:=K0.filter fun q=>(b8.lookup q.1).isNone
theorem jf (b:Addr):∀ K0:PySem.W.Frag,(bx K0).lookup b=if (b8.lookup b).isNone=true then K0.lookup b else none
 | []=>by simp [bx]
 | (c,o) :: r=>by
   have ih:=jf b r
   unfold bx at ih ⊢
   rw [List.filter_cons]
   by_cases e:b=c
   ·subst e
    by_cases q:(b8.lookup b).isNone=true
    ·rw [if_pos q,if_pos q,List.lookup_cons,List.lookup_cons]; simp
    ·rw [if_neg q,if_neg q]; rw [if_neg q] at ih; exact ih
   ·have e':(b == c)=false:=by simpa using e
    rw [List.lookup_cons,e']
    by_cases q:(b8.lookup c).isNone=true
    ·rw [if_pos q,List.lookup_cons,e']; exact ih
    ·rw [if_neg q]; exact ih
structure ly (K0:PySem.W.Frag):Prop where
 one:∀ p xs,(p,xs)∈b8->b8.lookup p=some xs
 tup:∀ p xs,b8.lookup p=some xs->∃ (od:Option Addr) (its:Array Value) (n:Nat) (sl:Array (Option Value)),K0.lookup p=some ⟨.type "tuple",od,.seq its n,sl⟩ /\ xs.length<=sizeLine /\ bw xs its.toList
theorem ly.look {K0:PySem.W.Frag} (C:ly K0) {b:Addr} {o:Obj} (h:K0.lookup b=some o) (n:∀ its n,o.data≠.seq its n):(bx K0).lookup b=some o:=by
 rw [jf]
 cases q:b8.lookup b with
 | none=>exact h
 | some xs=>
   obtain ⟨od,its,k,sl,e,_⟩:=C.tup b xs q
   rw [h] at e; cases e
   exact absurd rfl (n its k)
theorem ly.func {K0:PySem.W.Frag} (C:ly K0) {x qual:Str} {st:Stmt} {f:Addr} {fd:FuncData} (F:Ck K0 x qual st f fd):Ck (bx K0) x qual st f fd:=by
 obtain ⟨⟨oc,od,kV,doc,pm,an,cR,ct,Cc,e1,e2,e3⟩,kp⟩:=F
 have Ir:=C.look e2 (fun its n z=>by cases z)
 refine ⟨⟨oc,od,kV,doc,pm,an,cR,ct,Cc,e1,Ir,?_⟩,?_⟩
 ·unfold PySem.W.codeIn at e3 ⊢
  cases cR with
  | ref c=>
    simp only at e3 ⊢
    cases q:K0.lookup c with
    | none=>rw [q] at e3; exact absurd e3 (by simp)
    | some ob=>
      obtain ⟨c1,c2,dt,c4⟩:=ob
      rw [q] at e3
      cases dt with
      | fields vs=>rw [C.look q (fun its n z=>by cases z)]; exact e3
      | _=>exact absurd e3 (by simp)
  | _=>exact e3
 ·unfold PySem.W.keepIn
  simp only [Ir]
def Hc (K0:PySem.W.Frag):Hp:=fun b=>match b8.lookup b with
 | some xs=>(K0.lookup b).map fun ob=>HO.qP ob (.tup xs)
 | none=>none
def nR (neg:Bool):D->D->Option D:=fun x y=>match y with
 | .list l=>if (SeqAt.shaped x && l.all SeqAt.shaped)=true then some (.bool ((l.any fun z=>PyData.eqv z x) != neg)) else none
 | .tuple l=>if (SeqAt.shaped x && l.all SeqAt.shaped)=true then some (.bool ((l.any fun z=>PyData.eqv z x) != neg)) else none
 | _=>none
def Kv (K:PySem.W.Frag) (neg:Bool):R2:=fun x y H Q=>∃ dy ds dx,HD K H y dy /\ (dy=.list ds \/ dy=.tuple ds) /\ HD K H x dx /\ SeqAt.shaped dx=true /\ ds.all SeqAt.shaped=true /\ Q (.bl ((ds.any fun z=>PyData.eqv z dx) != neg)) H
theorem gW {ds:List D} (h:ds.all SeqAt.shaped=true):PyData.canLayAll0 ds=true:=by
 induction ds with
 | nil=>rfl
 | cons d ds ih=>
   rw [List.all_cons,Bool.and_eq_true] at h
   have h1:=h.1
   unfold SeqAt.shaped at h1
   rw [Bool.and_eq_true] at h1
   rw [PyData.canLayAll0,h1.1,ih h.2]
   rfl
section
variable {X:Cx}
theorem o3 {k:Nat} {ds:List D} {dx:D} (hr:c8 k X.A) (sx:SeqAt.shaped dx=true):X.A.units + 1 + min (PyData.depthAll ds) dx.depth < cLine:=by
 unfold SeqAt.shaped at sx
 rw [Bool.and_eq_true,decide_eq_true_eq] at sx
 have:=hr.un
 have:=sx.2
 omega
theorem tJ {k:Nat} (hr:c8 k X.A):iV X (compareOp .In) (Kv X.K false):=by
 intro pins s σ H x y v u Q I rx ry h
 obtain ⟨dy,ds,dx,hy,hd,hx,sx,Gc,q⟩:=h
 obtain ⟨as,r1⟩:=hx.reads I rx (cT sx)
 rw [Bool.bne_false] at q
 rcases hd with rfl | rfl
 ·obtain ⟨bs,r2⟩:=hy.reads I ry (by rw [PyData.canLay0]; exact gW Gc)
  exact SeqAt.in_list_reads r2 r1 (gW Gc) (cT sx) (o3 hr sx) ⟨.bl _,H,I,rfl,q⟩
 ·obtain ⟨bs,r2⟩:=hy.reads I ry (by rw [PyData.canLay0]; exact gW Gc)
  exact SeqAt.in_tuple_reads r2 r1 (gW Gc) (cT sx) (o3 hr sx) ⟨.bl _,H,I,rfl,q⟩
theorem Bo {k:Nat} (hr:c8 k X.A):iV X (compareOp .NotIn) (Kv X.K true):=by
 intro pins s σ H x y v u Q I rx ry h
 obtain ⟨dy,ds,dx,hy,hd,hx,sx,Gc,q⟩:=h
 obtain ⟨as,r1⟩:=hx.reads I rx (cT sx)
 rw [Bool.bne_true] at q
 rcases hd with rfl | rfl
 ·obtain ⟨bs,r2⟩:=hy.reads I ry (by rw [PyData.canLay0]; exact gW Gc)
  exact SeqAt.notIn_list_reads r2 r1 (gW Gc) (cT sx) (o3 hr sx) ⟨.bl _,H,I,rfl,q⟩
 ·obtain ⟨bs,r2⟩:=hy.reads I ry (by rw [PyData.canLay0]; exact gW Gc)
  exact SeqAt.notIn_tuple_reads r2 r1 (gW Gc) (cT sx) (o3 hr sx) ⟨.bl _,H,I,rfl,q⟩
end
set_option tactic.hygienic true in
theorem mX {K:PySem.W.Frag} {neg:Bool}:jo K (Kv K neg) (nR neg):=by
 intro A H x y dx dy d Q al hx hy e q
 unfold nR at e
 cases dy with
 | list l=>
   simp only at e
   split at e
   ·rename_i c
    rw [Bool.and_eq_true] at c
    cases e
    exact ⟨_,l,dx,hy.FL,.inl rfl,hx.FL,c.1,c.2,q _ H (aH.refl H) (.bl _)⟩
   ·cases e
 | tuple l=>
   simp only at e
   split at e
   ·rename_i c
    rw [Bool.and_eq_true] at c
    cases e
    exact ⟨_,l,dx,hy.FL,.inr rfl,hx.FL,c.1,c.2,q _ H (aH.refl H) (.bl _)⟩
   ·cases e
 | _=>cases e
set_option tactic.hygienic true in
theorem zS (gi:DS->Option (List D)) (ix:List Nat) (ge:DS->Option D):fU gi ix ge=cz gi 1 ix (aL 0) (fun _=>some true) ge:=by
 funext δ
 unfold fU cz
 cases gi δ with
 | none=>rfl
 | some ds=>
   rw [Option.bind_some,Option.bind_some]
   split
   ·induction ds with
    | nil=>rfl
    | cons d ds ih=>
      rename_i h
      rw [CM,lQ,ih (by rw [List.length_cons] at h; omega)]
      show _=Option.bind (Option.map some (ge (some d :: df ix δ))) _
      cases ge (some d :: df ix δ) <;> rfl
   ·rfl
section
variable {X:Cx} {O:List Nat} {gi:DS->Option (List D)} {ix:List Nat} {ge:DS->Option D}
theorem PE.Gd {e:Expr} (h:PE X e (tN X.K O (cz gi 1 ix (aL 0) (fun _=>some true) ge))):PE X e (tN X.K O (fU gi ix ge)):=by rw [zS]; exact h
theorem PS.Gd {st:Stmt} {i:Nat} (h:PS X st (qV (tN X.K O (cz gi 1 ix (aL 0) (fun _=>some true) ge)) (jN i))):PS X st (qV (tN X.K O (fU gi ix ge)) (jN i)):=by rw [zS]; exact h
end
end L2
namespace L2
open PySem PySem.Spec PyProof.Rows PySem.Calls
set_option maxRecDepth 100000
section
variable {prog:Program} {w:World} {A:Around} {E:Value->Shared->Prop} {s:Shared}
end
section
variable {X:Cx} {O:List Nat} {a:Expr} {ge:DS->Option D} {p1 p2 q1 q2:Pos} {ta:TA}
end
end L2
namespace L2
open PySem PySem.Spec PyProof.Rows
section
variable {K:PySem.W.Frag} {O O':List Nat} {U A0:List Addr} {σ:St} {δ:DS} {H H1:Hp}
theorem Rel.Nv {own c:DS} (hO:∀ i∈O',own.length<=i) (R:Rel K O' U A0 σ (own ++ c) H):Rel K O' U A0 σ (List.replicate own.length none ++ c) H:=by
 have key:∀ (i:Nat) (e:D),(List.replicate own.length none ++ c)[i]?=some (some e)->(own ++ c)[i]?=some (some e):=fun i e q=>by
  by_cases h:i < own.length
  ·rw [List.getElem?_append_left (by simpa using h),List.getElem?_replicate,if_pos h] at q
   cases q
  ·rw [List.getElem?_append_right (by simpa using h)] at q
   rw [List.getElem?_append_right (by omega)]
   simpa using q
 exact ⟨by rw [R.len]; simp,fun i e hi q=>R.fz i e hi (key i e q),fun i e hi q=>R.ow i e hi (key i e q),fun i j d e l hi hj hn q1 q2=>R.inj i j d e l hi hj hn (key i d q1) (key j e q2),R.al⟩
theorem Rel.Nw (R:Rel K O U A0 σ δ H) {ix:List Nat} (k:Nat) (h1:∀ t,t < ix.length->(ix.getD t 0∈O↔k + t∈O')) (h2:∀ i∈O',k<=i) (h3:ix.Nodup):Rel K O' U A0 (List.replicate k none ++ L2.mM ix σ) (List.replicate k none ++ df ix δ) H:=by
 have key:∀ (i:Nat) (e:D),(List.replicate k none ++ df ix δ)[i]?=some (some e)->∃ t j,i=k + t /\ ix[t]?=some j /\ δ[j]?=some (some e) /\ (List.replicate k none ++ L2.mM ix σ)[i]?=some (σ[j]?).join /\ (j∈O↔i∈O'):=fun i e q=>by
  by_cases h:i < k
  ·rw [List.getElem?_append_left (by simpa using h),List.getElem?_replicate,if_pos h] at q
   cases q
  ·rw [List.getElem?_append_right (by simpa using h)] at q ⊢
   simp only [List.length_replicate] at q ⊢
   unfold df at q
   unfold L2.mM
   rw [List.getElem?_map] at q ⊢
   cases ei:ix[i - k]? with
   | none=>rw [ei] at q; cases q
   | some j=>
     rw [ei] at q
     simp only [Option.map_some,Option.some.injEq] at q
     have ht:=(List.getElem?_eq_some_iff.mp ei).1
     have hd:ix.getD (i - k) 0=j:=by rw [List.getD_eq_getElem?_getD,ei]; rfl
     have:=h1 (i - k) ht
     rw [hd,show k + (i - k)=i by omega] at this
     exact ⟨i - k,j,by omega,ei,join_some q,rfl,this⟩
 refine ⟨by simp [L2.mM,df],fun i e hi q=>?_,fun i e hi q=>?_,fun i j d e l hi hj hn q1 q2 p1 p2=>?_,R.al⟩
 ·obtain ⟨t,j,rfl,e1,e2,e3,e4⟩:=key i e q
  obtain ⟨u,hu,hd⟩:=R.fz j e (fun z=>hi (e4.mp z)) e2
  exact ⟨u,by rw [e3,hu]; rfl,hd⟩
 ·obtain ⟨t,j,rfl,e1,e2,e3,e4⟩:=key i e q
  obtain ⟨l,o,hl,r⟩:=R.ow j e (e4.mpr hi) e2
  exact ⟨l,o,by rw [e3,hl]; rfl,r⟩
 ·obtain ⟨t,a,rfl,e1,e2,e3,e4⟩:=key i d q1
  obtain ⟨t',b,rfl,f1,f2,f3,f4⟩:=key j e q2
  have Ik:a≠b:=fun z=>hn (by
   subst z
   have:=(List.getElem?_inj (List.getElem?_eq_some_iff.mp e1).1 h3).mp (e1.trans f1.symm)
   omega)
  rw [e3] at p1
  rw [f3] at p2
  exact R.inj a b d e l (e4.mpr hi) (f4.mpr hj) Ik e2 f2 (join_some (Option.some.inj p1)) (join_some (Option.some.inj p2))
theorem Bp {J:It} {ix:List Nat} {k:Nat} {gt:D->DS->Option DS} {gc:DS->Option Bool} {ge:DS->Option D} {ds xs:List D} {Q:VK} (own:Iw k gt) (R:Rel K O U A0 σ δ H) (s:aH H H1) (h1:∀ t,t < ix.length->(ix.getD t 0∈O↔k + t∈O')) (h2:∀ i∈O',k<=i) (h3:ix.Nodup) (hw:WalksS K (U ++ A0) H1 J ds)
  (hl:ds.length<=100000) (e:lQ (fun d=>(gt d (List.replicate k none ++ df ix δ)).bind fun dW=>(gc dW).bind fun b=>if b=true then (ge dW).map some else some none) ds=some xs)
  (q:∀ r ys H',aH H H'->H r=none->H' r=some (.lst ys)->cv K (wo H' (r :: (U ++ A0))) ys xs->Q (.ref r) H'):oZ J k ix (tG K O' gt) (tT K O' gc) (tE K O' ge) σ H1 Q:=by
 have Py:(100000:Nat) < sizeLine:=by decide
 generalize hc:List.replicate k none ++ df ix δ=c0 at e
 refine ⟨fun i m ys τ H2=>m=ds.length - i /\ i<=ds.length /\ aH H1 H2 /\ Rel K O' U A0 τ c0 H2 /\ ys.length<=i /\ ∃ zs rest,cv K (wo H2 (U ++ A0)) ys zs /\
  lQ (fun d=>(gt d c0).bind fun dW=>(gc dW).bind fun b=>if b=true then (ge dW).map some else some none) (ds.drop i)=some rest /\ zs ++ rest=xs,
  ⟨ds.length,by simp,Nat.zero_le _,aH.refl _,hc ▸ (R.same s).Nw k h1 h2 h3,Nat.le_refl _,[],xs,.nil,by simpa using e,rfl⟩,?_⟩
 rintro i m ys τ H2 ⟨rfl,hle,s2,R2,Kg,zs,rest,hz,he,hx⟩
 refine ⟨by omega,?_⟩
 obtain ⟨MY,vC⟩:=hw i H2 s2
 by_cases fR:i < ds.length
 ·have hd:=List.getElem?_eq_getElem fR
  have zK:=List.drop_eq_getElem_cons fR
  generalize ds[i]=d at hd zK
  obtain ⟨go,OF⟩:=MY d hd
  rw [zK,lQ] at he
  obtain ⟨o,e1,e2⟩:=bind1 he
  obtain ⟨rs,e3,e4⟩:=bind1 e2
  obtain ⟨dW,f1,f2⟩:=bind1 e1
  obtain ⟨b,f3,f4⟩:=bind1 f2
  have Xf:=f1
  rw [<- hc] at Xf
  obtain ⟨lR,ol,oe⟩:=own d _ dW Xf
  refine .inr ⟨go,by omega,fun v H3 y=>?_⟩
  obtain ⟨s3,hv⟩:=OF v H3 y
  refine ⟨U,A0,_,d,dW,R2.same s3,hv,f1,fun ye R3=>⟨U,A0,dW,b,R3,f3,fun H4 s4=>?_⟩⟩
  have wk:∀ {H':Hp},aH H3 H'->Rel K O' U A0 ye c0 H':=fun {H'} s'=>by
   rw [<- hc,<- ol]
   rw [oe] at R3
   exact (R3.same s').Nv fun i hi=>by rw [ol]; exact h2 i hi
  cases b with
  | true=>
    rw [if_pos rfl] at f4
    show (if true=true then _ else _)
    rw [if_pos rfl]
    cases eg:ge dW with
    | none=>rw [eg] at f4; cases f4
    | some x=>
      rw [eg] at f4; cases f4
      cases e4
      refine ⟨U,A0,dW,x,R3.same s4,eg,fun u H5 s5 hu=>⟨ds.length - (i + 1),by omega,rfl,fR,((s2.trans s3).trans s4).trans s5,wk (s4.trans s5),by simp; omega,zs ++ [x],rs,?_,e3,by rw [<- hx]; simp⟩⟩
      exact (hz.same (cq ((s3.trans s4).trans s5))).app (.cons hu .nil)
  | false=>
    rw [if_neg Bool.false_ne_true] at f4
    show (if false=true then _ else _)
    rw [if_neg Bool.false_ne_true]
    cases f4
    cases e4
    exact ⟨ds.length - (i + 1),by omega,rfl,fR,(s2.trans s3).trans s4,wk s4,by omega,zs,rs,hz.same (cq (s3.trans s4)),e3,hx⟩
 ·have hi:i=ds.length:=by omega
  subst hi
  rw [List.drop_length,lQ] at he
  cases he
  rw [List.append_nil] at hx
  subst hx
  exact .inl ⟨vC rfl,fun p hp=>pL (s.trans s2) q p ys hp hz⟩
end
section
variable {X:Cx} {O:List Nat} {scope:Scope} {elt iter tg:Expr} {ifs:List Expr} {pos:Pos} {gi:DS->Option (List D)} {ge:DS->Option D} {gt:D->DS->Option DS} {gc:DS->Option Bool} {k:Nat}
set_option tactic.hygienic true in
theorem vR (O':List Nat) (sc:Scope) (N:List Str) (ix:List Nat) (N' xs:List Str) (own:Iw k gt) (hi:PI X tg iter (J6 X.K O gi))
  (hg:∀ cl C s2 H2 fp pins,PG (b7 X scope N' cl C s2 H2 fp pins) tg (tG X.K O' gt)) (hf:∀ cl C s2 H2 fp pins,PF (b7 X scope N' cl C s2 H2 fp pins) ifs (tT X.K O' gc)) (pZ:∀ cl C s2 H2 fp pins,PE (b7 X scope N' cl C s2 H2 fp pins) elt (tE X.K O' ge))
  (h1:∀ t,t < ix.length->(ix.getD t 0∈O↔k + t∈O'):=by decide) (h2:∀ i∈O',k<=i:=by decide) (h3:ix.Nodup:=by decide) (hk:ke sc scope N xs ix N'=true:=by decide +kernel) (hl:xs.length=k:=by rfl)
  (e1:X.env.scope=sc:=by rfl) (e2:X.N=N:=by rfl) (hc:X.calm=true:=by rfl) (hs:∀ x,foldedSetIterable iter X.env x=pure x:=by intro _; rfl):PE X (.ListComp elt [⟨tg,iter,ifs,0⟩] scope pos) (tN X.K O (cz gi k ix gt gc ge)):=by
 subst hl
 refine (si (lP hk e1 e2) hc hi hg hf pZ hs).mono fun _ _ _ h=>?_
 obtain ⟨U,A0,δ,xs,R,ed,q⟩:=h
 obtain ⟨ds,e1,e2⟩:=bind1 ed
 split at e2
 ·rename_i hl
  exact ⟨U,A0,δ,ds,R,e1,fun J H1 s hw=>Bp own R s h1 h2 h3 hw hl e2 q⟩
 ·cases e2
end
def Dl (CX:EW) (P:Program) (w:World) (K:PySem.W.Frag) (mg:Str->Option Value) (base:Heap) (N:List Str) (qual:Str) (scope:Scope) (f:Addr) (cd:Value) (cl:List (Str×Addr)) (A:Around) (outer:List Env) (s:Shared) (H:Hp) (E:XK):Cx where
 prog:=P
 w:=w
 K:=K
 mg:=mg
 base:=base
 A:=A.deeper (PySem.W.envX qual scope s.heap.objs.size f cd cl)
 N:=N
 fS:=s
 AB:=H
 env:=PySem.W.envX qual scope s.heap.objs.size f cd cl
 outer:=outer
 stack:=PySem.W.envX qual scope s.heap.objs.size f cd cl :: outer
 ex:=[]
 calm:=true
 fn:=fun _=>false
 pn:=[]
 xe:=fun e s'=>wpAny (model P w) (A.deeper (PySem.W.envX qual scope s.heap.objs.size f cd cl)) (leaving (PySem.W.envX qual scope s.heap.objs.size f cd cl) e) (fun _ Fq=>CX outer H s E e Fq) (fun e' Fq=>CX outer H s E e' Fq) s'
structure Ge (ps fv:List Str) (sc:Scope) (cl:List (Str×Addr)):Prop where
 kind:sc.kind=.function
 co:sc.isCoroutine=false
 gen:sc.isGenerator=false
 nQ:∀ y∈sc.names,y.2≠.cell
 nd:(ps ++ fv).Nodup
 par:∀ x∈ps,sc.names.lookup x=some .local
 fr:∀ x∈fv,sc.names.lookup x=some .free
 only:∀ x,sc.names.lookup x=some .free->∃ c,cl.lookup x=some c
 inj:∀ x y c,cl.lookup x=some c->cl.lookup y=some c->x=y
theorem vS {y:Str} {u:Value}:∀ {l:List (Str×Value)},(l.map (·.1)).Nodup->(y,u)∈l->l.lookup y=some u
 | (z,w) :: l,nd,h=>by
   rw [List.map_cons,List.nodup_cons] at nd
   rcases List.mem_cons.mp h with e | e
   ·cases e; rw [List.lookup_cons]; simp
   ·have iJ:(y == z)=false:=by
     cases q:y == z with
     | false=>rfl
     | true=>rw [<- eq_of_beq q] at nd; exact absurd (List.mem_map.mpr ⟨_,e,rfl⟩) nd.1
    rw [List.lookup_cons,iJ]
    exact vS nd.2 e
theorem oE:∀ (ps:List Str) (us:List Value),((ps.zip us).map (·.1)).Sublist ps
 | [],_=>by simp
 | p :: ps,[]=>by simp
 | p :: ps,u :: us=>by rw [List.zip_cons_cons,List.map_cons]; exact (oE ps us).cons₂ p
theorem Dm {ps:List Str} {us:List Value} {i:Nat} {y:Str} {u:Value} (nd:ps.Nodup) (h1:ps[i]?=some y) (h2:us[i]?=some u):(ps.zip us).reverse.lookup y=some u:=by
 refine vS ?_ (List.mem_reverse.mpr ?_)
 ·rw [List.map_reverse]
  refine List.pairwise_reverse.mpr (List.Pairwise.imp (fun h=>Ne.symm h) ?_)
  exact nd.sublist (oE ps us)
 ·exact List.mem_of_getElem? (i:=i) (by rw [List.getElem?_zip_eq_some]; exact ⟨h1,h2⟩)
theorem Ny {P:Program} {w:World} {K:PySem.W.Frag} {mg:Str->Option Value} {base:Heap} {k:Nat} {f c':Addr} {name qual:Str} {params:Arguments} {body:Expr} {scope:Scope} {cl:List (Str×Addr)} {pm xn:Value} {ps fv:List Str} {cvs:List V} {sp:Sp}
  (hf:base.get? f=some (PySem.W.kla_obj name qual params body scope cl pm c' xn)) (S:Ge ps fv scope cl) (Kw:cvs.length=fv.length)
  (cells:∀ (i:Nat) (x:Str) (v:V),fv[i]?=some x->cvs[i]?=some v->∃ c u,cl.lookup x=some c /\ base.IsCell c (some u) /\ RelV v u)
  (Nz:∀ x c,cl.lookup x=some c->∃ v,base.IsCell c v)
  (len:∀ vs H Q E,sp vs H Q E->vs.length=ps.length) (code:∀ vs H Q E,sp vs H Q E->H c'=some (.code qual))
  (j4:∀ (A:Around) (outer:List Env) (s:Shared) (H:Hp) (vs:List V) (Q:VK) (E:XK),c8 k (A.deeper (PySem.W.envX qual scope s.heap.objs.size f (.ref c') cl))->sp vs H Q E->
   ∃ t,PE (Dl oX P w K mg base (ps ++ fv) qual scope f (.ref c') cl A outer s H E) body t /\ t ((vs ++ cvs).map some) H Q):
  lF P w K mg base oX (k + 1) f (PySem.W.kla_fn name qual params body scope cl pm (.ref c') xn) ps sp:=by
 refine ⟨len,fun A outer s H args us vs Q E hr e0 hb r zq=>?_⟩
 have hl:=len _ _ _ _ zq
 have lim:s.heap.NoLimit:=e0.mod.nolimit.keeps fun b o e=>(e0.bs b o e).1
 have Y1:s.heap.CodeRec (.ref c') qual:=e0.cg c' _ (code _ _ _ _ zq)
 refine PySem.W.kla_callFunE hr.depth (e0.bs f _ hf).1 rfl S.co S.gen rfl Y1 (hb _ _ _ _ ?_)
 refine wpAny_newFunctionEnv S.nQ (fun y hy=>S.par y.1 (List.of_mem_zip hy).1) (fun h' ns sb=>?_) S.kind
 have kp:∀ b o,s.heap.get? b=some o->h'.get? b=some o:=fun b o e=>(sb.2 b (Nat.ne_of_lt (Heap.lt_size e))).trans (Heap.get?_push_of_some _ e)
 refine ⟨lim.keeps kp,PySem.W.kla_codeExpr ?_⟩
 obtain ⟨t,ht,hq⟩:=j4 A outer s H vs Q E (hr.deeper _) zq
 have hls:us.length=ps.length:=by rw [<- r.length]; exact hl
 have I:Inv (Dl oX P w K mg base (ps ++ fv) qual scope f (.ref c') cl A outer s H E) [] ((vs ++ cvs).map some) H { s with heap:=h',toks:=s.toks + (ps.zip us).length }:=by
  have Fs:∀ b:Addr,b∉(Dl oX P w K mg base (ps ++ fv) qual scope f (.ref c') cl A outer s H E).ex:=fun b z=>absurd (show b∈([]:List Addr) from z) (by simp)
  refine ⟨⟨e0.mod,S.kind,rfl,rfl,Nat.le_refl _,S.inj,fun y hy=>?_,fun y c h=>(by cases h),fun _=>hr.hd,Around.frames_deeper e0.frames,.inr ⟨rfl,rfl⟩,fun b z=>absurd z (Fs b),e0.bs,e0.zl,fun b _ _=>Fs b,fun b z=>absurd z (Fs b),e0.mC,e0.HI⟩,
   rfl,e0.bare,Un.kept kp,⟨_,ns,fun i y v h1 h2 h3=>?_⟩,fun y c h=>?_,e0.cg.fresh (Nat.le_refl _),fun y c h=>?_,fun p hp=>absurd (show p∈([]:List (Addr×Obj)) from hp) (by simp),e0.cg.kept kp,?_⟩
  ·have hy:scope.names.lookup y=some .cell \/ scope.names.lookup y=some .free:=hy
   rcases hy with hy | hy
   ·exact absurd rfl (S.nQ _ (PySem.mem_of_lookup hy))
   ·exact S.only y hy
  ·have h1:(ps ++ fv)[i]?=some y:=h1
   have h2:((vs ++ cvs).map some)[i]?=some (some v):=h2
   have ha:(vs ++ cvs)[i]?=some v:=by
    rw [List.getElem?_map] at h2
    cases e:(vs ++ cvs)[i]? with
    | none=>rw [e] at h2; cases h2
    | some a=>rw [e] at h2; cases h2; rfl
   by_cases hi:i < ps.length
   ·rw [List.getElem?_append_left hi] at h1
    rw [List.getElem?_append_left (by omega)] at ha
    obtain ⟨u,hu,rv⟩:=r.get ha
    exact ⟨u,rv,.inl ⟨S.par y (List.mem_of_getElem? h1),Dm (S.nd.sublist (List.sublist_append_left _ _)) h1 hu⟩⟩
   ·rw [List.getElem?_append_right (by omega)] at h1
    rw [List.getElem?_append_right (by omega),hl] at ha
    obtain ⟨c,u,e1,⟨o,e2,e3⟩,rv⟩:=cells _ y v h1 ha
    exact ⟨u,rv,.inr ⟨.inr (S.fr y (List.mem_of_getElem? h1)),c,e1,o,kp _ _ (e0.bs c o e2).1,e3⟩⟩
  ·obtain ⟨v,o,e1,e2⟩:=Nz y c h
   exact ⟨v,o,kp _ _ (e0.bs c o e1).1,e2⟩
  ·obtain ⟨v,o,e1,e2⟩:=Nz y c h
   exact (e0.bs c o e1).2
  ·show _=(ps ++ fv).length
   rw [List.length_map,List.length_append,List.length_append,hl,Kw]
 refine wpAny_mono (ht [] _ ((vs ++ cvs).map some) H _ I hq) (fun u s' hs=>?_) fun e s' hs=>hs
 obtain ⟨v,H',J,rv,q⟩:=hs
 exact ⟨v,H',J.os,J.bare,J.base,J.cg,rv,q⟩
section
variable {X:Cx} {pins:List (Addr×Obj)} {σ:St} {H:Hp} {s:Shared}
def p9 (X:Cx) (s:Shared) (H:Hp):Heap:=PySem.W.hideAll (qS s.heap H) (lj X.stack)
theorem Dp {b:Addr} {o:Obj} (e:(p9 X s H).get? b=some o):s.heap.get? b=some o /\ H b=none:=zk (PySem.W.of_hideAll _ e)
theorem nS {b:Addr} {o:Obj} (e:s.heap.get? b=some o) (n:H b=none) (f:b∉lj X.stack):(p9 X s H).get? b=some o:=PySem.W.hideAll_get _ (mB e n) f
theorem Inv.wide (I:Inv X pins σ H s) {b:Addr} {o:Obj} (e:X.base.get? b=some o):(p9 X s H).get? b=some o:=
 nS (I.bs b o e).1 (I.bs b o e).2 fun z=>by rw [(I.stack.mem z).1] at e; cases e
theorem Ns.widen {h h':Heap} {a:Addr} {m:Str->Option Value} (k:∀ b o,h.get? b=some o->h'.get? b=some o) (n:h.Ns a m):h'.Ns a m:=let ⟨o,es,ep,e,r⟩:=n; ⟨o,es,ep,k _ _ e,r⟩
theorem Mod.widen {K:PySem.W.Frag} {mg:Str->Option Value} {h h':Heap} (m:Mod K mg h) (k:∀ b o,h.get? b=some o->h'.get? b=some o):Mod K mg h':=
 ⟨m.Om.keeps k,Ns.widen k m.glob,let ⟨mb,h1,h2⟩:=m.blt; ⟨mb,Ns.widen k h1,h2⟩,m.nolimit.keeps k⟩
theorem su {h base Iz:Heap}:∀ {l:List Env},h.FunFrames base l->(∀ b∈lj l,Iz.get? b=none)->h.FunFrames Iz l
 | [],_,_=>trivial
 | env :: l,f,n=>by
   obtain ⟨h1,⟨L,o,e1,e2,e3⟩,h3⟩:=f
   have hL:L∈lj (env :: l):=by unfold lj; rw [List.filterMap_cons,e1]; exact List.mem_cons_self
   refine ⟨h1,⟨L,o,e1,n L hL,e3⟩,su h3 fun b hb=>n b ?_⟩
   unfold lj at hb ⊢
   rw [List.filterMap_cons,e1]
   exact List.mem_cons_of_mem _ hb
end
section
variable {X:Cx} {pins:List (Addr×Obj)} {σ:St} {H:Hp} {s:Shared}
theorem Kx {params:Arguments} {body:Expr} {scope:Scope} {pos:Pos} {c P:Addr} {q:Str} {Q:Value->Shared->Prop} {E:Value->Shared->Prop} (I:Inv X pins σ H s) (hd:defaultsOf params X.env=([],[]))
  (nO:∀ y∈scope.names,y.2=.free->∃ c,X.env.cells.lookup y.1=some c) (zT:X.env.code=.ref c) (hH:PySem.W.CodeHd s.heap c P) (hP:H P=some (.lam pos q)) (hq:X.env.qual ++ Str.ofString "<lambda>"=q) (hb:s.heap.BuiltinsAt X.mg P) (Y2:mainGlobals≠P)
  (h:∀ (cl:List (Str×Addr)) (f c':Addr) (xn:Value) (s':Shared) (H':Hp),(∀ n c,cl.lookup n=some c->X.env.cells.lookup n=some c)->(∀ n,(n,NameKind.free)∈scope.names->∃ c,cl.lookup n=some c)->Inv X pins σ H' s'->aH H H'->H' c'=some (.code q)->H' f=none->f∉lj X.stack->
   s'.heap.get? f=some (PySem.W.kla_obj (Str.ofString "<lambda>") q params body scope cl ((X.mg (Str.ofString "__name__")).getD .none) c' xn)->Q (.ref f) s'):
  wpAny (model X.prog X.w) X.A (eval (.Lambda params body scope pos) X.env) Q E s:=by
 subst hq
 refine PySem.W.kla_eval hd ?_
 obtain ⟨cl,e1,h1,h2⟩:=lG nO
 obtain ⟨ps,NA,ht,hc⟩:=(show cy X.prog X.w H s.heap P (.lam pos _) from I.cg P _ hP)
 have Ky:s.heap.Ns mainGlobals X.mg:=Ns.widen I.bk I.ok.mod.glob
 have mV:∀ f:Addr,s.heap.objs.size<=f->f∉lj X.stack:=fun f hf z=>by
  obtain ⟨_,o,e,_⟩:=I.stack.mem z
  exact Nat.lt_irrefl _ (Nat.lt_of_lt_of_le (Heap.lt_size e) hf)
 rcases hc with hn | ⟨c',LC,IU⟩
 ·refine PySem.W.kla_makeFunction e1 I.ok.glob Ky zT hH NA ht hn Y2 hb fun c' xn h' tk ext Kz fR Qw NB=>?_
  have KA:H c'=none:=I.cg.fresh Kz
  have hPc:P≠c':=fun z=>by rw [z,KA] at hP; cases hP
  have un:Un X.fs [] H (upd H c' (.code (X.env.qual ++ Str.ofString "<lambda>"))) s.heap h':=by
   have kp:∀ b o,s.heap.get? b=some o->H b=none->h'.get? b=some o:=fun b o e n=>ext b o (fun z=>by rw [z,hP] at n; cases n) e
   refine ⟨fun b o e n _ _=>kp b o e n,fun b o e n _ _=>⟨o.slots,kp b o e n⟩,fun b o e n _=>?_,fun b o e _=>?_,fun b xs e=>?_,fun b o u e=>?_,fun b ts e=>⟨#[],?_⟩⟩
   ·rw [aR (Nat.ne_of_lt (Nat.lt_of_lt_of_le (Heap.lt_size e) Kz))]; exact n
   ·by_cases z:b=P
    ·rw [z]; exact ⟨_,NB⟩
    ·exact ⟨o,ext b o z e⟩
   ·rw [aR (aV e KA)]; exact e
   ·rw [aR (aV e KA)]; exact e
   ·rw [aR (aV e KA),e]; simp
  have ok:lh X.prog X.w (upd H c' (.code (X.env.qual ++ Str.ofString "<lambda>"))) h':=fun a o e=>by
   by_cases ha:a=c'
   ·subst ha; rw [bR] at e; cases e; exact Qw
   ·rw [aR ha] at e
    by_cases vQ:a=P
    ·subst vQ
     rw [hP] at e; cases e
     exact ⟨_,NB,by rw [Array.toList_append]; exact TriplesOk_snoc _ _ _ _ ht,.inr ⟨c',by rw [Array.toList_append]; exact codeAmong_snoc _ ht hn,bR⟩⟩
    ·refine (I.cg a o e).qQ (fun b u Qx q=>ext b u ?_ q) (fun b q=>by rw [aR (aV q KA)]; exact q) fun b xs q=>q.new KA
     rcases Qx with z | z
     ·rw [z]; exact vQ
     ·intro y; rw [y,hP] at z; cases z
  have I1:=I.un (t':=tk) un ok
  have hsz:s.heap.objs.size<=h'.objs.size:=Nat.le_of_lt (Nat.lt_of_le_of_lt Kz fR)
  have I2:Inv X pins σ (upd H c' (.code (X.env.qual ++ Str.ofString "<lambda>"))) { s with heap:=h'.push (PySem.W.kla_obj (Str.ofString "<lambda>") (X.env.qual ++ Str.ofString "<lambda>") params body scope cl ((X.mg (Str.ofString "__name__")).getD .none) c' xn),toks:=tk }:=
   I1.kept (t':=tk) fun b o e=>Heap.get?_push_of_some _ e
  exact h cl h'.objs.size c' xn _ _ h1 h2 I2 (fun b o e=>by rw [aR (aV e KA)]; exact e) bR (ok.fresh (Nat.le_refl _)) (mV _ hsz) (Heap.get?_push_size _ rfl)
 ·refine PySem.W.kla_makeFunctionHit e1 I.ok.glob Ky zT hH NA ht LC hb fun xn h' tk kp hsz=>?_
  have I2:Inv X pins σ H { s with heap:=h'.push (PySem.W.kla_obj (Str.ofString "<lambda>") (X.env.qual ++ Str.ofString "<lambda>") params body scope cl ((X.mg (Str.ofString "__name__")).getD .none) c' xn),toks:=tk }:=
   I.kept (t':=tk) fun b o e=>Heap.get?_push_of_some _ (kp b o e)
  exact h cl h'.objs.size c' xn _ _ h1 h2 I2 (aH.refl H) IU (I.cg.fresh hsz) (mV _ hsz) (Heap.get?_push_size _ rfl)
end
section
variable {X:Cx} {O:List Nat} {i k kk n:Nat} {f c:Addr} {q x:Str} {e:Expr} {es:List Expr} {p pos:Pos} {t:TA} {sp:Sp} {fd:FuncData} {ps:List Str} {G:List D->Option D} {gr:DS->Option (List D)}
end
def Gf (mg:Str->Option Value) (h:Heap):Prop:=∃ bm ob,mg (Str.ofString "__builtins__")=some (.ref bm) /\ bm≠builtinsNs /\ h.get? bm=some ob /\ ob.cls=.type "module" /\ ob.dict=some builtinsNs /\ ob.data=.plain
theorem Rel.KC {K:PySem.W.Frag} {A:List Addr} {H:Hp} {vs:List V} {ds:List D} (al:Ls A H) (h:cv K (wo H A) vs ds):Rel K [] [] A (vs.map some) (ds.map some) H where
 len:=by rw [List.length_map,List.length_map,h.len]
 fz:=fun i d _ e=>by
  rw [List.getElem?_map] at e
  cases q:ds[i]? with
  | none=>rw [q] at e; cases e
  | some d'=>
    rw [q] at e; cases e
    obtain ⟨v,e1,e2⟩:=h.get q
    exact ⟨v,by rw [List.getElem?_map,e1]; rfl,e2⟩
 ow:=fun i d hi=>by simp at hi
 inj:=fun i j d e l hi=>by simp at hi
 al:=al
structure NC (ps fv:List Str) (sc:Scope):Prop where
 kind:sc.kind=.function
 co:sc.isCoroutine=false
 gen:sc.isGenerator=false
 nQ:∀ y∈sc.names,y.2≠.cell
 nd:(ps ++ fv).Nodup
 par:∀ x∈ps,sc.names.lookup x=some .local
 fr:∀ x∈fv,sc.names.lookup x=some .free
section
variable {X:Cx} {pins:List (Addr×Obj)} {σ:St} {H:Hp} {s:Shared} {O:List Nat}
end
section
variable {X:Cx} {O:List Nat}
end
def ND (K:PySem.W.Frag) (mg:Str->Option Value) (x:Str) (st:Stmt) (ps:List Str) (c:Addr):Prop:=∃ f fd,Ck K x x st f fd /\ fd.code=.ref c /\ mg x=some (.ref f) /\ Binds K fd ps []
theorem KD {ts:List Addr} {p:Addr} {y:Pos} {q:Str} (h:(b9.all fun t=>ts.contains t.1)=true) (m:(p,y,q)∈b9):p∈ts:=by
 have:=List.all_eq_true.mp h _ m
 simpa using this
def lT:List Int->Int
 | []=>0
 | n :: ns=>n + lT ns
theorem vU:∀ a b:List Int,lT (a ++ b)=lT a + lT b
 | [],b=>by rw [List.nil_append,lT,Int.zero_add]
 | x :: a,b=>by rw [List.cons_append,lT,vU a b,lT,Int.add_assoc]
theorem zU (ns:List Int):∀ k,k<=ns.length->preSum (fun i=>ns.getD i 0) k=lT (ns.take k)
 | 0,_=>rfl
 | k + 1,h=>by
   have hk:k < ns.length:=h
   rw [preSum,zU ns k (Nat.le_of_lt hk),List.take_add_one,List.getElem?_eq_getElem hk,vU,List.getD_eq_getElem?_getD,List.getElem?_eq_getElem hk]
   show _=_ + (ns[k] + 0)
   rw [Int.add_zero]; rfl
theorem sv {X:Cx} (hc:X.calm=true):eX X (.builtin "sum") (fun xs H Q=>∃ (p:Addr) (ns:List Int),xs=[.ref p] /\ iC X.K H p (ns.map V.int) /\ Q (.int (lT ns)) H):=by
 intro pins s σ H xs us Q I r h
 obtain ⟨p,ns,rfl,hq,q⟩:=h
 obtain ⟨u,rfl,rx⟩:=vals1 r
 cases rx
 obtain ⟨its,rv,pl,_⟩:=I.list hq
 have hl:=rv.length
 rw [List.length_map] at hl
 have fR:p≠s.heap.objs.size:=by
  obtain ⟨o,n,e1,_⟩:=pl
  exact Nat.ne_of_lt (Heap.lt_size e1)
 refine call_sum_walkAnyS (wpAny_pyIter_list pl.isList ?_)
 refine ⟨s.heap.objs.size,[s.heap.objs.size,p],[s.heap.objs.size],_,_,_,_,fun i=>ns.getD i 0,rfl,(Walks.list (A:=X.A.in1) (I.ok.hd hc) _ p fR its.toArray).toS,⟨⟨_,Heap.get?_push_size _ rfl,rfl,rfl⟩,pl.isList.push _⟩,fun b hb=>?_,fun i v hP=>?_,fun s' t' mv=>?_⟩
 ·rw [Heap.size_push]
  rcases List.mem_cons.mp hb with z | z
  ·rw [z]; exact Nat.lt_succ_self _
  ·rw [List.mem_singleton.mp z]
   obtain ⟨o,n,e1,_⟩:=pl
   exact Nat.lt_succ_of_lt (Heap.lt_size e1)
 ·have mz:its[i]?=some v:=by simpa using hP
  have hi:=(List.getElem?_eq_some_iff.mp mz).1
  obtain ⟨w',hw,xu⟩:=rv.get (i:=i) (x:=V.int (ns.getD i 0)) (by rw [List.getElem?_map,List.getD_eq_getElem?_getD,List.getElem?_eq_getElem (by omega)]; rfl)
  rw [mz] at hw; cases hw
  exact xu
 ·have e:preSum (fun i=>ns.getD i 0) its.toArray.size=lT ns:=by
   rw [List.size_toArray,<- hl,zU ns _ (Nat.le_refl _),List.take_length]
  rw [e]
  obtain ⟨hx,gx,dx,tx,ox⟩:=s'
  have eg:gx=s.gens:=mv.gens
  have ed:dx=s.drawn:=mv.drawn
  have eo:ox=s.os:=mv.os
  subst eg ed eo
  refine ⟨.int (lT ns),H,I.kept (h':=hx) (t':=tx) fun b o e=>mv.heap b o (fun z=>?_) (Heap.get?_push_of_some _ e),⟨t',rfl⟩,q⟩
  rw [List.mem_singleton] at z
  exact absurd (Heap.lt_size e) (by rw [z]; exact Nat.lt_irrefl _)
theorem Dq:bootBuiltins "sum"=some (.builtin "sum"):=by decide +kernel
def Bq:List D->Option D
 | [.list l]=>(jS l).map fun ns=>.int (lT ns)
 | _=>none
set_option tactic.hygienic true in
theorem zV {K:PySem.W.Frag}:rb K (fun xs H Q=>∃ (p:Addr) (ns:List Int),xs=[.ref p] /\ iC K H p (ns.map V.int) /\ Q (.int (lT ns)) H) Bq:=by
 intro A H vs ds d Q al h e q
 unfold Bq at e
 split at e
 ·rename_i l
  cases hl:jS l with
  | none=>rw [hl] at e; cases e
  | some ns=>
    rw [hl] at e; cases e
    have:=ju hl
    subst this
    cases h with
    | cons h1 h2=>
      cases h2
      obtain ⟨p,ys,rfl,hp,hy⟩:=h1.list
      have:=cv.toInts hy
      subst this
      exact ⟨p,ns,rfl,hp.sq,q _ H (aH.refl H) (.int _)⟩
 ·cases e
theorem zW {β:Type}:∀ {l:List (Addr×β)} {p:Addr} {x:β},l.lookup p=some x->(p,x)∈l
 | [],_,_,h=>by cases h
 | (q,y) :: l,p,x,h=>by
   rw [List.lookup_cons] at h
   by_cases e:p=q
   ·subst e
    rw [beq_self_eq_true] at h
    cases h
    exact List.mem_cons_self
   ·rw [show (p == q)=false by simpa using e] at h
    exact List.mem_cons_of_mem _ (zW h)
structure vV (K:PySem.W.Frag):Prop where
 one:∀ p y q,(p,y,q)∈b9->b9.lookup p=some (y,q)
 out:∀ p y q,(p,y,q)∈b9->K.lookup p=none /\ ∃ c,PySem.W.codeHdIn K c p=true
def Hl:Hp:=fun b=>(b9.lookup b).map fun t=>HO.lam t.1 t.2
theorem Gg {b:Addr} {o:HO} (h:Hl b=some o):∃ y q,o=.lam y q /\ (b,y,q)∈b9:=by
 unfold Hl at h
 cases e:b9.lookup b with
 | none=>rw [e] at h; cases h
 | some t=>rw [e] at h; cases h; exact ⟨t.1,t.2,rfl,zW e⟩
set_option tactic.hygienic true in
theorem Dr {K:PySem.W.Frag} {c p:Addr} (C:ly K) (h:PySem.W.codeHdIn K c p=true):PySem.W.codeHdIn (bx K) c p=true:=by
 have e:(bx K).lookup c=K.lookup c:=by
  cases q:K.lookup c with
  | none=>rw [jf,q]; split <;> rfl
  | some o=>
    refine C.look q fun its n z=>?_
    unfold PySem.W.codeHdIn at h
    rw [q] at h
    split at h
    ·rename_i hh; cases hh; cases z
    ·cases h
 unfold PySem.W.codeHdIn at h ⊢
 rw [e]; exact h
theorem Br {P:Program} {w:World} {K:PySem.W.Frag} {mg mb:Str->Option Value} {k:Nat} {fa a:Addr} {fd:FuncData} {x:Str} {sp:Sp} {bA:Shared} {vs:List Value} {ns:List Int} (CC:ly K) (C:vV K)
  (KX:K.In bA.heap) (hT:∀ p y q,(p,y,q)∈b9->bA.heap.get? p=some (PySem.W.tabObj #[])) (Ky:bA.heap.Ns mainGlobals mg) (hb:bA.heap.Ns builtinsNs mb) (Qx:∀ x:Str,x≠"__name__"->mb x=bootBuiltins x) (Qy:bA.heap.NoLimit) (QA:Gf mg bA.heap) (hg:bA.gens=#[])
  (ha:bA.heap.get? a=some { cls:=.type "list",data:=.seq vs.toArray }) (hi:IntsAre vs ns) (hl:ns.length<=sizeLine) (hr:c8 k callerA)
  (F:∀ base:Heap,(bx K).In base->base.Ns mainGlobals mg->Gf mg base->lF P w (bx K) mg base oX k fa fd [x] sp) (NF:∀ (s:Shared) (u:Value),BindsTo s fd ⟨[u],[]⟩ [(x,u)])
  (zq:∀ H:Hp,xk (bx K) H a (ns.map V.int)->(∀ p xs,(p,xs)∈b8->dw H p xs)->(∀ p y q,(p,y,q)∈b9->H p=some (.lam y q))->sp [.ref a] H (fun v H'=>v=.bl true /\ aH H H') fun _ _ _=>False):
  codeAny (model P w) callerA (.call (.ref fa) ⟨[.ref a],[]⟩) (fun r s'=>r=.ok (.ret (.bool true)) /\ OldK bA.heap s'.heap /\ s'.os=bA.os /\ AllBare s'.gens) bA:=by
 have rv:=rX hi
 have QB:=hi.length
 have tab:∀ p y q,(p,y,q)∈b9->isCodeTable bA.heap p:=fun p y q m=>by
  obtain ⟨_,c,hc⟩:=C.out p y q m
  obtain ⟨o,vs,_,_,_,_,_,_,_,h1,h2,h3,h4,_⟩:=PySem.W.codeHd_of_K KX hc
  exact ⟨c,o,vs,h1,h2,h3,h4⟩
 have core:∀ H:Hp,(∀ b o,H b=some o->(∃ ob u,o=.qP ob u /\ ∀ es ep,ob.data≠.dict es ep /\ ob.data≠.plain) \/ ∃ y q,o=.lam y q /\ (b,y,q)∈b9)->xk (bx K) H a (ns.map V.int)->lh P w H bA.heap->(∀ p xs,(p,xs)∈b8->dw H p xs)->(∀ p y q,(p,y,q)∈b9->H p=some (.lam y q))->(∀ b,H b≠none->(bx K).lookup b=none)->
   codeAny (model P w) callerA (.call (.ref fa) ⟨[.ref a],[]⟩) (fun r s'=>r=.ok (.ret (.bool true)) /\ OldK bA.heap s'.heap /\ s'.os=bA.os /\ AllBare s'.gens) bA:=by
  intro H hO hS cg Y3 hL hK
  have dat:∀ {b:Addr} {o:Obj} {u:HO},H b=some u->bA.heap.get? b=some o->(∀ es ep,o.data≠.dict es ep) /\ o.data≠.plain:=fun {b o u} e h=>by
   rcases hO b u e with ⟨ob,z,rfl,hd⟩ | ⟨y,q,rfl,m⟩
   ·obtain ⟨e1,_⟩:=cg b _ e
    rw [h] at e1; cases e1
    exact ⟨fun es ep=>(hd es ep).1,(hd #[] 0).2⟩
   ·rw [hT b y q m] at h; cases h
    exact ⟨fun es ep z=>(by cases z),fun z=>(by cases z)⟩
  have Fs:∀ {b:Addr} {o:Obj} {es:Array DictEntry} {ep:Nat},bA.heap.get? b=some o->o.data=.dict es ep->H b=none:=fun {b o es ep} e d=>by
   cases q:H b with
   | none=>rfl
   | some u=>exact absurd d ((dat q e).1 es ep)
  have OH:∀ {b:Addr} {m:Str->Option Value},bA.heap.Ns b m->(qS bA.heap H).Ns b m:=fun {b m} ⟨o,es,ep,e,d,r⟩=>⟨o,es,ep,mB e (Fs e d),d,r⟩
  have Xg:(bx K).In (qS bA.heap H):=fun b o e=>by
   have e0:K.lookup b=some o:=by
    rw [jf] at e
    split at e
    ·exact e
    ·cases e
   refine mB (KX b o e0) ?_
   cases q:H b with
   | none=>rfl
   | some u=>rw [hK b (by rw [q]; simp)] at e; cases e
  have Y4:Gf mg (qS bA.heap H):=by
   obtain ⟨bm,ob,b1,b2,b3,b4,b5,b6⟩:=QA
   refine ⟨bm,ob,b1,b2,mB b3 ?_,b4,b5,b6⟩
   cases q:H bm with
   | none=>rfl
   | some u=>exact absurd b6 (dat q b3).2
  have hM:Mod (bx K) mg (qS bA.heap H):=⟨Xg,OH Ky,⟨mb,OH hb,Qx⟩,let ⟨mc,h1,h2⟩:=Qy; ⟨mc,OH h1,h2⟩⟩
  have e0:Cb P w (bx K) mg (qS bA.heap H) callerA [] bA H:=⟨rfl,hM,fun b o e=>zk e,Nat.le_of_eq (rM _ _),trivial,fun b hb=>absurd (show b∈([]:List Addr) from hb) (by simp),cg,.of_eq hg⟩
  refine codeAny_mono ((F _ Xg (OH Ky) Y4).run callerA [] bA H ⟨[.ref a],[]⟩ [.ref a] [.ref a] _ _ hr e0 (NF bA (.ref a)) (.cons rfl .nil) (zq H hS Y3 hL)) fun r s' h=>?_
  cases r with
  | error e=>exact h.elim
  | ok fl=>
    cases fl with
    | next=>exact False.elim h
    | brk=>exact False.elim h
    | cont=>exact False.elim h
    | ret u=>
      obtain ⟨v,H',os,bare,un,NG,r',rfl,sm⟩:=h
      obtain rfl:u=Value.bool true:=r'
      have Y5:∀ b o,bA.heap.get? b=some o->asItWas bA.heap s'.heap b o:=fun b o e=>by
       cases q:H b with
       | none=>exact .inl (un.keep b o e q (by intro z; exact absurd (show b∈([]:List Addr) from z) (by simp)) (by simp))
       | some u=>
         rcases hO b u q with ⟨ob,z,rfl,_⟩ | ⟨y,q',rfl,m⟩
         ·obtain ⟨e1,_⟩:=cg b _ q
          obtain ⟨e2,_⟩:=NG b _ (un.qR b ob _ q)
          rw [e] at e1; cases e1
          exact .inl e2
         ·rw [hT b y q' m] at e; cases e
          obtain ⟨ps,e2,_⟩:=(show cy P w H' s'.heap b (.lam y q') from NG b _ (sm _ _ q))
          exact .inr (.inl ⟨tab b y q' m,rfl,#[],ps,rfl,by rw [e2,Array.empty_append]⟩)
      exact ⟨rfl,⟨Y5,fun b o e=>un.there b o e (by simp)⟩,os,bare⟩
 have Y6:∀ (H:Hp) b y q,(b,y,q)∈b9->cy P w H bA.heap b (.lam y q):=fun H b y q m=>⟨#[],hT b y q m,trivial,.inl rfl⟩
 have Xh:∀ b,Hc K b=none \/ ∃ ob xs od its n sl,Hc K b=some (.qP ob (.tup xs)) /\ b8.lookup b=some xs /\ K.lookup b=some ob /\ ob=⟨.type "tuple",od,.seq its n,sl⟩ /\ xs.length<=sizeLine /\ bw xs its.toList:=by
  intro b
  unfold Hc
  cases q:b8.lookup b with
  | none=>exact .inl rfl
  | some xs=>
    obtain ⟨od,its,n,sl,e,h1,h2⟩:=CC.tup b xs q
    refine .inr ⟨_,xs,od,its,n,sl,?_,rfl,e,rfl,h1,h2⟩
    show (K.lookup b).map _=_
    rw [e]; rfl
 have Y7:∀ p xs,(p,xs)∈b8->∃ ob,Hc K p=some (.qP ob (.tup xs)):=fun p xs m=>by
  obtain ⟨od,its,n,sl,e,_⟩:=CC.tup p xs (CC.one p xs m)
  refine ⟨⟨.type "tuple",od,.seq its n,sl⟩,?_⟩
  unfold Hc
  rw [CC.one p xs m]
  show (K.lookup p).map _=_
  rw [e]; rfl
 have Y8:∀ p y q,(p,y,q)∈b9->Hc K p=none:=fun p y q m=>by
  rcases Xh p with z | ⟨_,_,_,_,_,_,_,_,z,_⟩
  ·exact z
  ·rw [(C.out p y q m).1] at z; cases z
 have both:∀ b o,(Hc K b).or (Hl b)=some o->(∃ ob xs od its n sl,o=.qP ob (.tup xs) /\ b8.lookup b=some xs /\ K.lookup b=some ob /\ ob=⟨.type "tuple",od,.seq its n,sl⟩ /\ xs.length<=sizeLine /\ bw xs its.toList) \/ ∃ y q,o=.lam y q /\ (b,y,q)∈b9:=fun b o z=>by
  rcases Xh b with q | ⟨ob,xs,od,its,n,sl,q,r⟩
  ·rw [q,Option.none_or] at z; exact .inr (Gg z)
  ·rw [q,Option.some_or] at z; cases z; exact .inl ⟨ob,xs,od,its,n,sl,rfl,r⟩
 have bO:∀ (H:Hp) b o,(Hc K b).or (Hl b)=some o->cy P w H bA.heap b o:=fun H b o z=>by
  rcases both b o z with ⟨ob,xs,od,its,n,sl,rfl,_,e,rfl,h1,h2⟩ | ⟨y,q,rfl,m⟩
  ·have NH:=KX b _ e
   exact ⟨NH,h1,its.toList,h2,_,NH,rfl,n,by simp⟩
  ·exact Y6 H b y q m
 have bF:∀ b o,(Hc K b).or (Hl b)=some o->(∃ ob u,o=.qP ob u /\ ∀ es ep,ob.data≠.dict es ep /\ ob.data≠.plain) \/ ∃ y q,o=.lam y q /\ (b,y,q)∈b9:=fun b o z=>by
  rcases both b o z with ⟨ob,xs,od,its,n,sl,rfl,_,e,rfl,_⟩ | h
  ·exact .inl ⟨_,_,rfl,fun es ep=>⟨fun y=>(by cases y),fun y=>(by cases y)⟩⟩
  ·exact .inr h
 have bK:∀ b,(Hc K b).or (Hl b)≠none->(bx K).lookup b=none:=fun b z=>by
  cases q:(Hc K b).or (Hl b) with
  | none=>exact absurd q z
  | some o=>
    rw [jf]
    rcases both b o q with ⟨ob,xs,od,its,n,sl,rfl,e0,_⟩ | ⟨y,q',rfl,m⟩
    ·rw [e0]; rfl
    ·rw [(C.out b y q' m).1]; split <;> rfl
 have bT:∀ p xs,(p,xs)∈b8->∃ ob,(Hc K p).or (Hl p)=some (.qP ob (.tup xs)):=fun p xs m=>by
  obtain ⟨ob,e⟩:=Y7 p xs m
  exact ⟨ob,by rw [e,Option.some_or]⟩
 have bL:∀ p y q,(p,y,q)∈b9->(Hc K p).or (Hl p)=some (.lam y q):=fun p y q m=>by
  rw [Y8 p y q m,Option.none_or]; unfold Hl; rw [C.one p y q m]; rfl
 have Xi:(Hc K a).or (Hl a)=none:=by
  cases q:(Hc K a).or (Hl a) with
  | none=>rfl
  | some o=>
    rcases both a o q with ⟨ob,xs,od,its,n,sl,rfl,_,e,rfl,_⟩ | ⟨y,q',rfl,m⟩
    ·have:=KX a _ e
     rw [ha] at this
     have:=congrArg Obj.cls (Option.some.inj this)
     exact absurd (Value.type.inj this) (by decide)
    ·have:=hT a y q' m
     rw [ha] at this; cases this
 cases hk:(bx K).lookup a with
 | some o=>
   have e0:K.lookup a=some o:=by
    rw [jf] at hk
    split at hk
    ·exact hk
    ·cases hk
   have e:=KX a o e0
   rw [ha] at e
   cases e
   exact core (fun b=>(Hc K b).or (Hl b)) bF (.inr ⟨vs,_,hk,by rw [QB]; exact hl,rv⟩) (fun b u z=>bO _ b u z) (fun p xs m=>.inr (bT p xs m)) bL bK
 | none=>
   refine core (fun b=>if b=a then some (.qP { cls:=.type "list",data:=.seq vs.toArray } (.lst (ns.map V.int))) else (Hc K b).or (Hl b)) (fun b o z=>?_) (.inl (.inr ⟨{ cls:=.type "list",data:=.seq vs.toArray },if_pos rfl⟩)) (fun b u z=>?_) (fun p xs m=>?_) (fun p y q m=>?_) fun b z=>?_
   ·by_cases hb:b=a
    ·have z':=(if_pos hb).symm.trans z
     cases z'
     exact .inl ⟨_,_,rfl,fun es ep=>⟨fun y=>(by cases y),fun y=>(by cases y)⟩⟩
    ·exact bF b o ((if_neg hb).symm.trans z)
   ·by_cases hb:b=a
    ·have z':=(if_pos hb).symm.trans z
     cases z'
     subst hb
     exact ⟨ha,by rw [List.length_map]; exact hl,vs,_,rv,ha⟩
    ·exact bO _ b u ((if_neg hb).symm.trans z)
   ·obtain ⟨ob,q⟩:=bT p xs m
    have hb:p≠a:=fun e=>by rw [e,Xi] at q; cases q
    exact .inr ⟨ob,(if_neg hb).trans q⟩
   ·have hb:p≠a:=fun e=>by have:=bL p y q m; rw [e,Xi] at this; cases this
    exact (if_neg hb).trans (bL p y q m)
   ·by_cases hb:b=a
    ·subst hb; exact hk
    ·exact bK b fun q=>z ((if_neg hb).trans q)
theorem Ds {l:PySem.W.OpenLaw} {n k:Nat} {q:Program} {loose:List Str} {XP:(Str->Option Value)->Heap->Prop} {YP:World->Heap->Prop} {d:DefRec} {K:Params->PySem.W.Frag} {sp:World->Sp} {x:Str}
  (hn:l.most=some n) (LQ:n<=sizeLine) (MF:d.params.defaults=[]) (hr:c8 k callerA) (hY:∀ (w:World) (h:Heap),YP w h->(K w.params).In h /\ ∀ p y q,(p,y,q)∈b9->h.get? p=some (PySem.W.tabObj #[]))
  (F:∀ (w:World) (mg:Str->Option Value) (fa:Addr) (h:Heap),(K w.params).In h->h.Ns mainGlobals mg->mg d.name=some (.ref fa)->ly (K w.params) /\ vV (K w.params) /\
   ∃ fd:FuncData,(∀ (s:Shared) (u:Value),BindsTo s fd ⟨[u],[]⟩ [(x,u)]) /\ ∀ base:Heap,(bx (K w.params)).In base->base.Ns mainGlobals mg->Gf mg base->lF l.prog w (bx (K w.params)) mg base oX k fa fd [x] (sp w))
  (zq:∀ (w:World) (H:Hp) (a:Addr) (ns:List Int),ns.length<=n->xk (bx (K w.params)) H a (ns.map V.int)->(∀ p xs,(p,xs)∈b8->dw H p xs)->(∀ p y q,(p,y,q)∈b9->H p=some (.lam y q))->sp w [.ref a] H (fun v H'=>v=.bl true /\ aH H H') fun _ _ _=>False):
  PySem.W.WalkO q loose XP YP l.row.toRowW d [] (fun f vs=>PySem.call f vs):=by
 refine WJ.u4 hn MF fun w fS bA mg mb fa o pm cd doc a vs ns G Y ho hd qT MG Cj hints hlen hg=>?_
 obtain ⟨KX,KT⟩:=hY w _ Y
 obtain ⟨CC,C,fd,hb,hF⟩:=F w mg fa _ KX G.T.g MG
 exact Br CC C KX KT G.T.g G.T.b G.T.builtins G.T.nolimit G.T.bmain hg Cj hints (Nat.le_trans hlen LQ) hr hF hb (fun H hS hC hT=>zq w H a ns hlen hS hC hT)
end L2
namespace KS
open PySem PyProof.Rows
section
variable {κ:KeyKind}
end
section
variable {prog:Program} {w:World} {A:Around} {E:Value->Shared->Prop} {s:Shared} {aC:Array Keyed} {κ:KeyKind}
structure Ba (aC:Array Keyed) (kd:SortKind) (st:SortSt):Prop where
 perm:(arrOf st).Perm aC
 kind:kindOf st=kd
 failed:failedOf st=none
theorem Ba.size {kd:SortKind} {st:SortSt} (h:Ba aC kd st):(arrOf st).size=aC.size:=h.perm.size_eq
theorem Ba.arr {kd:SortKind} {st:SortSt} (h:Ba aC kd st) {xs:Array Keyed} (hp:xs.Perm (arrOf st)):Ba aC kd (setArr st xs):=⟨hp.trans h.perm,h.kind,h.failed⟩
theorem Ba.get {kd:SortKind} {st:SortSt} (h:Ba aC kd st) {i:Nat} (hi:i < aC.size):∃ x,(arrOf st)[i]?=some x /\ x∈aC.toList /\ KK κ (arrOf st) i=(κ.keyOf x.1).getD κ.dflt:=by
 have Gh:i < (arrOf st).size:=by rw [h.size]; exact hi
 have e:(arrOf st)[i]?=some (arrOf st)[i]:=getElem?_pos _ i Gh
 refine ⟨(arrOf st)[i],e,(Array.perm_iff_toList_perm.mp h.perm).mem_iff.mp (by simp),?_⟩
 unfold KK; rw [e]
def ri (prog:Program) (w:World) (A:Around) (E:Value->Shared->Prop) (s:Shared) (κ:KeyKind) (kd:SortKind) (aC:Array Keyed):Prop:=
 ∀ x y:Keyed,x∈aC.toList->y∈aC.toList->∀ (E':Value->Shared->Prop) (Q:Bool->Shared->Prop),Q (κ.blt ((κ.keyOf x.1).getD κ.dflt) ((κ.keyOf y.1).getD κ.dflt)) s->wpAny (model prog w) A (keyLt' kd x.1 y.1) Q E' s
theorem KE {kd:SortKind} {st:SortSt} {x y:Keyed} {Q:Option Bool->SortSt->Prop} (hO:ri prog w A E s κ kd aC) (hk:kindOf st=kd) (hx:x∈aC.toList) (hy:y∈aC.toList) (h:Q (some (κ.blt ((κ.keyOf x.1).getD κ.dflt) ((κ.keyOf y.1).getD κ.dflt))) st):
  wpS (model prog w) A E s (lt' x y) Q st:=by
 rw [lt'_eq]
 refine wpS_bind (wpS_get ?_)
 refine wpS_bind (wpS_lift (wpAny_attempt ?_))
 rw [hk]
 exact hO x y hx hy _ _ ⟨rfl,wpS_pure h⟩
theorem vW {st:SortSt} {xs:Array Keyed} {i:Nat} {x:Keyed} {Q:Keyed->SortSt->Prop} (hi:xs[i]?=some x) (h:Q x st):wpS (model prog w) A E s (elem' xs i) Q st:=by
 rw [elem'_eq,hi]
 exact wpS_pure h
theorem mY {kd:SortKind} {st:SortSt} {i j:Nat} {Q:Option Bool->SortSt->Prop} (hO:ri prog w A E s κ kd aC) (hB:Ba aC kd st) (hi:i < aC.size) (hj:j < aC.size) (h:Q (some (κ.blt (KK κ (arrOf st) i) (KK κ (arrOf st) j))) st):
  wpS (model prog w) A E s (ltAt' i j) Q st:=by
 obtain ⟨x,e1,m1,k1⟩:=hB.get (κ:=κ) hi
 obtain ⟨y,e2,m2,k2⟩:=hB.get (κ:=κ) hj
 rw [k1,k2] at h
 rw [ltAt'_eq]
 exact wpS_bind (wpS_get (wpS_bind (vW e1 (wpS_bind (vW e2 (KE hO hB.kind m1 m2 h))))))
end
def OO (o:Keyed->Nat) (xs:Array Keyed) (i:Nat):Nat:=(xs[i]?.map o).getD 0
def lx (κ:KeyKind) (p q:κ.α×Nat):Prop:=κ.klt p.1 q.1 \/ p.1=q.1 /\ p.2 < q.2
def TT (κ:KeyKind) (o:Keyed->Nat) (xs:Array Keyed) (i:Nat):κ.α×Nat:=(KK κ xs i,OO o xs i)
def tK (κ:KeyKind) (o:Keyed->Nat) (xs:Array Keyed) (k:Nat):Prop:=∀ i j,i < j->j < k->lx κ (TT κ o xs i) (TT κ o xs j)
def Dec (κ:KeyKind) (o:Keyed->Nat) (xs:Array Keyed) (k:Nat):Prop:=∀ i j,i < j->j < k->lx κ (TT κ o xs j) (TT κ o xs i)
section
variable {prog:Program} {w:World} {A:Around} {E:Value->Shared->Prop} {s:Shared} {aC:Array Keyed} {κ:KeyKind} {o:Keyed->Nat} {kd:SortKind}
theorem qa {xs ys:Array Keyed} {i j:Nat} (h:ys[i]?=xs[j]?):TT κ o ys i=TT κ o xs j:=by unfold TT OO KK; rw [h]
theorem Du {p q:κ.α×Nat} (h:lx κ p q):κ.kle p.1 q.1:=by
 rcases h with h | ⟨h,_⟩
 ·exact KeyOrd.kle_of_klt h
 ·rw [h]; exact KeyOrd.kle_refl _
theorem qb {p q r:κ.α×Nat} (h:lx κ p q) (k:lx κ q r):lx κ p r:=by
 rcases h with h | ⟨h,h'⟩
 ·exact .inl (KeyOrd.klt_of_klt_of_kle h (Du k))
 ·rcases k with k | ⟨k,k'⟩
  ·rw [<- h] at k; exact .inl k
  ·exact .inr ⟨h.trans k,Nat.lt_trans h' k'⟩
theorem IA {p q:κ.α×Nat} (h:κ.blt q.1 p.1=false) (k:p.2 < q.2):lx κ p q:=by
 cases e:κ.blt p.1 q.1 with
 | true=>exact .inl e
 | false=>exact .inr ⟨KeyOrd.kle_antisymm h e,k⟩
theorem NI {p q:κ.α×Nat} (h:lx κ p q) (k:q.2<=p.2):κ.klt p.1 q.1:=by
 rcases h with h | ⟨_,h⟩
 ·exact h
 ·exact absurd h (Nat.not_lt.mpr k)
structure Pre (o:Keyed->Nat) (aC:Array Keyed) (kd:SortKind) (ig:Array (Nat×Nat×Nat)) (st:SortSt) (k:Nat):Prop where
 base:Ba aC kd st
 pend:pendingOf st=ig
 rest:∀ i,k<=i->(arrOf st)[i]?=aC[i]?
 ord:∀ i,i < k->OO o (arrOf st) i < k
variable {ig:Array (Nat×Nat×Nat)} {st:SortSt}
theorem Pre.own {k:Nat} (hP:Pre o aC kd ig st k) (hA:∀ i,i < aC.size->OO o aC i=i) {i:Nat} (h1:k<=i) (h2:i < aC.size):OO o (arrOf st) i=i:=by
 rw [show OO o (arrOf st) i=OO o aC i by unfold OO; rw [hP.rest i h1]]
 exact hA i h2
theorem Pre.more {k n:Nat} (hP:Pre o aC kd ig st k) (hA:∀ i,i < aC.size->OO o aC i=i) (QC:k<=n) (hn:n<=aC.size):Pre o aC kd ig st n:=by
 refine ⟨hP.base,hP.pend,fun i h=>hP.rest i (by omega),fun i h=>?_⟩
 by_cases q:i < k
 ·have:=hP.ord i q; omega
 ·rw [hP.own hA (by omega) (by omega)]; exact h
theorem zX {a:Nat} {Q:AscSt->SortSt->Prop} (hO:ri prog w A E s κ kd aC) (hA:∀ i,i < aC.size->OO o aC i=i) (ha:1<=a) (Y9:a<=aC.size) (hP:Pre o aC kd ig st a) (hs:tK κ o (arrOf st) a)
  (h:∀ n,a<=n->n<=aC.size->tK κ o (arrOf st) n->(n=aC.size \/ κ.klt (KK κ (arrOf st) n) (KK κ (arrOf st) (n - 1)))->Q (none,n) st):wpS (model prog w) A E s (ascLoop a aC.size) Q st:=by
 unfold ascLoop
 refine wpS_forRange (I:=fun x c cu=>cu=st /\ c=(none,x) /\ tK κ o (arrOf st) x) ?step ?fin ⟨rfl,rfl,hs⟩
 case fin=>
  rintro c cu ⟨rfl,rfl,jY⟩
  rw [show max a aC.size=aC.size by omega] at jY ⊢
  exact h _ Y9 (Nat.le_refl _) jY (.inl rfl)
 case step=>
  rintro x c cu OI Xj ⟨rfl,rfl,jY⟩
  dsimp only
  refine wpS_bind (mY hO hP.base (by omega) (by omega) ?_)
  cases vX:κ.blt (KK κ (arrOf cu) x) (KK κ (arrOf cu) (x - 1))
  case true=>
   simp only [if_true]
   exact wpS_pure (h x OI (by omega) jY (.inr vX))
  case false=>
   simp only [Bool.false_eq_true,if_false]
   have hx:=hP.more hA OI (by omega)
   have last:lx κ (TT κ o (arrOf cu) (x - 1)) (TT κ o (arrOf cu) x):=IA vX (by
    show OO o (arrOf cu) (x - 1) < OO o (arrOf cu) x
    rw [hx.own hA (Nat.le_refl _) Xj]; exact hx.ord _ (by omega))
   refine wpS_pure ⟨rfl,rfl,fun i j i8 hj=>?_⟩
   by_cases Za:j < x
   ·exact jY i j i8 Za
   ·have e:j=x:=by omega
    rw [e]
    by_cases q:i=x - 1
    ·rw [q]; exact last
    ·exact qb (jY i (x - 1) (by omega) (by omega)) last
theorem sy {n:Nat} {Q:Option Nat->SortSt->Prop} (hO:ri prog w A E s κ kd aC) (hA:∀ i,i < aC.size->OO o aC i=i) (h1:1<=n) (Gi:n<=aC.size) (hP:Pre o aC kd ig st n) (hs:Dec κ o (arrOf st) n)
  (h:∀ m cu,1<=m->m<=aC.size->Pre o aC kd ig cu m->tK κ o (arrOf cu) m->Q (some m) cu):wpS (model prog w) A E s (tail3 n aC.size) Q st:=by
 unfold tail3
 have hsz:n<=(arrOf st).size:=by rw [hP.base.size]; omega
 refine wpS_bind (wpS_reverse ?_)
 have g:∀ i,(mirror (arrOf st) 0 n ((n - 0) / 2))[i]?=if 0<=i /\ i < n then (arrOf st)[0 + n - 1 - i]? else (arrOf st)[i]?:=getElem?_mirror_all hsz
 have mz:Pre o aC kd ig (setArr st (mirror (arrOf st) 0 n ((n - 0) / 2))) n:=by
  refine ⟨hP.base.arr (mirror_perm _ _ _ _),hP.pend,fun i hi=>?_,fun i hi=>?_⟩
  ·show (mirror (arrOf st) 0 n ((n - 0) / 2))[i]?=_
   rw [g,if_neg (by omega)]; exact hP.rest i hi
  ·show OO o (mirror (arrOf st) 0 n ((n - 0) / 2)) i < n
   unfold OO
   rw [g,if_pos (by omega)]
   exact hP.ord _ (by omega)
 refine wpS_bind (zX hO hA h1 Gi mz ?_ fun m IB BP Zb _=>wpS_pure (h m _ (by omega) BP (mz.more hA IB BP) Zb))
 intro i j i8 hj
 show lx κ (TT κ o (mirror (arrOf st) 0 n ((n - 0) / 2)) i) (TT κ o (mirror (arrOf st) 0 n ((n - 0) / 2)) j)
 rw [qa ((g i).trans (if_pos (by omega))),qa ((g j).trans (if_pos (by omega)))]
 exact hs _ _ (by omega) (by omega)
structure tL (κ:KeyKind) (o:Keyed->Nat) (xs:Array Keyed) (g x:Nat):Prop where
 dec:∀ i j,i < j->j < x->i < g->lx κ (TT κ o xs j) (TT κ o xs i)
 same:∀ i,g<=i->i < x->KK κ xs i=KK κ xs (x - 1)
theorem tL.le {xs:Array Keyed} {g x:Nat} (h:tL κ o xs g x) {i:Nat} (hi:i < x):κ.kle (KK κ xs (x - 1)) (KK κ xs i):=by
 by_cases q:g<=i
 ·rw [h.same i q hi]; exact KeyOrd.kle_refl _
 ·by_cases q2:i=x - 1
  ·rw [q2]; exact KeyOrd.kle_refl _
  ·exact Du (h.dec i (x - 1) (by omega) (by omega) (by omega))
theorem nT {g x:Nat} (hA:∀ i,i < aC.size->OO o aC i=i) (hx:x<=aC.size) (hg:g < x) (hP:Pre o aC kd ig st g) (hF:tL κ o (arrOf st) g x):
  Pre o aC kd ig (setArr st (mirror (arrOf st) g x ((x - g) / 2))) x /\ Dec κ o (mirror (arrOf st) g x ((x - g) / 2)) x /\ (∀ i,i < x->κ.kle (KK κ (arrOf st) (x - 1)) (KK κ (mirror (arrOf st) g x ((x - g) / 2)) i)) /\ ∀ i,x<=i->KK κ (mirror (arrOf st) g x ((x - g) / 2)) i=KK κ (arrOf st) i:=by
 have hsz:x<=(arrOf st).size:=by rw [hP.base.size]; omega
 have e:∀ i,(mirror (arrOf st) g x ((x - g) / 2))[i]?=if g<=i /\ i < x then (arrOf st)[g + x - 1 - i]? else (arrOf st)[i]?:=getElem?_mirror_all hsz
 have t:∀ i,TT κ o (mirror (arrOf st) g x ((x - g) / 2)) i=if g<=i /\ i < x then TT κ o (arrOf st) (g + x - 1 - i) else TT κ o (arrOf st) i:=fun i=>by
  by_cases q:g<=i /\ i < x
  ·rw [if_pos q]; exact qa ((e i).trans (if_pos q))
  ·rw [if_neg q]; exact qa ((e i).trans (if_neg q))
 refine ⟨⟨hP.base.arr (mirror_perm _ _ _ _),hP.pend,fun i hi=>?_,fun i hi=>?_⟩,fun i j i8 hj=>?_,fun i hi=>?_,fun i hi=>?_⟩
 ·show (mirror (arrOf st) g x ((x - g) / 2))[i]?=_
  rw [e,if_neg (by omega)]; exact hP.rest i (by omega)
 ·show (TT κ o (mirror (arrOf st) g x ((x - g) / 2)) i).2 < x
  rw [t]
  by_cases q:g<=i /\ i < x
  ·rw [if_pos q]
   show OO o (arrOf st) (g + x - 1 - i) < x
   rw [hP.own hA (by omega) (by omega)]; omega
  ·rw [if_neg q]
   have:=hP.ord i (by omega)
   exact Nat.lt_trans this hg
 ·by_cases qi:g<=i
  ·rw [(t i).trans (if_pos ⟨qi,by omega⟩),(t j).trans (if_pos ⟨by omega,hj⟩)]
   refine .inr ⟨(hF.same _ (by omega) (by omega)).trans (hF.same _ (by omega) (by omega)).symm,?_⟩
   show OO o (arrOf st) _ < OO o (arrOf st) _
   rw [hP.own hA (by omega) (by omega),hP.own hA (by omega) (by omega)]; omega
  ·rw [(t i).trans (if_neg fun z=>qi z.1)]
   by_cases qj:g<=j
   ·rw [(t j).trans (if_pos ⟨qj,hj⟩)]; exact hF.dec _ _ (by omega) (by omega) (by omega)
   ·rw [(t j).trans (if_neg fun z=>qj z.1)]; exact hF.dec _ _ i8 hj (by omega)
 ·show κ.kle _ (TT κ o (mirror (arrOf st) g x ((x - g) / 2)) i).1
  rw [t]
  by_cases q:g<=i /\ i < x
  ·rw [if_pos q]; exact hF.le (by omega)
  ·rw [if_neg q]; exact hF.le hi
 ·show (TT κ o (mirror (arrOf st) g x ((x - g) / 2)) i).1=_
  rw [t,if_neg (by omega)]; rfl
theorem qc (xs:Array Keyed) {x:Nat} (hx:1<=x):mirror xs (x - 1) x ((x - (x - 1)) / 2)=xs:=by
 rw [show x - (x - 1)=1 by omega]; rfl
theorem vY (st:SortSt):setArr st (arrOf st)=st:=rfl
theorem Bt {n:Nat} {Q:DescSt->SortSt->Prop} (hO:ri prog w A E s κ kd aC) (hA:∀ i,i < aC.size->OO o aC i=i) (h1:1<=n) (Gi:n<=aC.size) (hP:Pre o aC kd ig st (n - 1)) (hF:tL κ o (arrOf st) (n - 1) n)
  (h:∀ m qd cu,n<=m->m<=aC.size->qd + 1<=m->Pre o aC kd ig cu (m - (qd + 1))->tL κ o (arrOf cu) (m - (qd + 1)) m->Q (none,m,qd) cu):wpS (model prog w) A E s (descLoop n aC.size) Q st:=by
 unfold descLoop
 refine wpS_forRange (I:=fun x c cu=>∃ qd,c=(none,x,qd) /\ qd + 1<=x /\ Pre o aC kd ig cu (x - (qd + 1)) /\ tL κ o (arrOf cu) (x - (qd + 1)) x) ?step ?fin ⟨0,rfl,by omega,hP,hF⟩
 case fin=>
  rintro c cu ⟨qd,rfl,hq,mz,E2⟩
  rw [show max n aC.size=aC.size by omega] at hq mz E2 ⊢
  exact h _ qd cu Gi (Nat.le_refl _) hq mz E2
 case step=>
  rintro x c cu OI Xj ⟨qd,rfl,hq,mz,E2⟩
  dsimp only
  refine wpS_bind (mY hO mz.base (by omega) (by omega) ?_)
  cases vX:κ.blt (KK κ (arrOf cu) x) (KK κ (arrOf cu) (x - 1))
  case true=>
   simp only [if_true]
   obtain ⟨p1,p2,p3,p4⟩:=nT hA (by omega) (by omega) mz E2
   have fin:∀ cM:SortSt,arrOf cM=mirror (arrOf cu) (x - (qd + 1)) x ((x - (x - (qd + 1))) / 2)->Pre o aC kd ig cM x->∃ Gj,((none,x + 1,0):DescSt)=(none,x + 1,Gj) /\ Gj + 1<=x + 1 /\ Pre o aC kd ig cM (x + 1 - (Gj + 1)) /\ tL κ o (arrOf cM) (x + 1 - (Gj + 1)) (x + 1):=by
    intro cM e E3
    refine ⟨0,rfl,by omega,E3,⟨fun i j i8 hj hi=>?_,fun i h1 h2=>by congr 1; omega⟩⟩
    rw [e]
    by_cases q:j < x
    ·exact p2 i j i8 q
    ·have e2:j=x:=by omega
     rw [e2]
     refine .inl ?_
     show κ.klt (KK κ (mirror _ _ _ _) x) _
     rw [p4 x (Nat.le_refl _)]
     exact KeyOrd.klt_of_klt_of_kle vX (p3 i (by omega))
   by_cases Dv:qd > 0
   ·rw [if_pos Dv]
    exact wpS_bind (wpS_reverse (wpS_pure (fin _ rfl p1)))
   ·rw [if_neg Dv]
    have e0:qd=0:=by omega
    subst e0
    have em:=qc (arrOf cu) (x:=x) (by omega)
    rw [show x - (0 + 1)=x - 1 by omega,em,vY] at p1
    exact wpS_pure (fin cu (by rw [show x - (0 + 1)=x - 1 by omega,em]) p1)
  case false=>
   simp only [Bool.false_eq_true,if_false]
   refine wpS_bind (mY hO mz.base (by omega) (by omega) ?_)
   cases Gk:κ.blt (KK κ (arrOf cu) (x - 1)) (KK κ (arrOf cu) x)
   case true=>
    simp only [if_true]
    exact wpS_pure (h x qd cu OI (by omega) hq mz E2)
   case false=>
    simp only [Bool.false_eq_true,if_false]
    have NJ:KK κ (arrOf cu) x=KK κ (arrOf cu) (x - 1):=KeyOrd.kle_antisymm Gk vX
    have eg:x + 1 - (qd + 1 + 1)=x - (qd + 1):=by omega
    refine wpS_pure ⟨qd + 1,rfl,by omega,by rw [eg]; exact mz,?_⟩
    rw [eg]
    refine ⟨fun i j i8 hj hi=>?_,fun i h1 h2=>?_⟩
    ·by_cases q:j < x
     ·exact E2.dec i j i8 q hi
     ·have e2:j=x:=by omega
      rw [e2]
      refine .inl ?_
      show κ.klt (KK κ (arrOf cu) x) _
      rw [NJ]
      refine NI (E2.dec i (x - 1) (by omega) (by omega) hi) ?_
      show OO o (arrOf cu) i<=OO o (arrOf cu) (x - 1)
      have own:OO o (arrOf cu) (x - 1)=x - 1:=mz.own hA (by omega) (by omega)
      have:=mz.ord i hi
      omega
    ·rw [show x + 1 - 1=x by omega]
     by_cases xm:i=x
     ·rw [xm]
     ·rw [NJ]; exact E2.same i h1 (by omega)
theorem qe {n:Nat} {Q:Option Nat->SortSt->Prop} (hO:ri prog w A E s κ kd aC) (hA:∀ i,i < aC.size->OO o aC i=i) (Gi:n + 1<=aC.size) (hP:Pre o aC kd ig st n) (hs:Dec κ o (arrOf st) n) (hl:∀ i,i < n->κ.klt (KK κ (arrOf st) n) (KK κ (arrOf st) i))
  (h:∀ m cu,1<=m->m<=aC.size->Pre o aC kd ig cu m->tK κ o (arrOf cu) m->Q (some m) cu):wpS (model prog w) A E s (descPart n aC.size) Q st:=by
 unfold descPart
 refine wpS_bind (wpS_lift (wpAny_rule ⟨rfl,?_⟩))
 have hF:tL κ o (arrOf st) (n + 1 - 1) (n + 1):=⟨fun i j i8 hj hi=>by
  by_cases q:j < n
  ·exact hs i j i8 q
  ·rw [show j=n by omega]; exact .inl (hl i (by omega)),fun i h1 h2=>by congr 1; omega⟩
 refine wpS_bind (Bt hO hA (by omega) Gi (by simpa using hP) hF fun m qd cu IB BP hq mz E2=>?_)
 dsimp only
 obtain ⟨p1,p2,_,_⟩:=nT hA BP (by omega) mz E2
 by_cases Dv:qd > 0
 ·rw [if_pos Dv]
  exact wpS_bind (wpS_reverse (sy hO hA (by omega) BP p1 p2 h))
 ·rw [if_neg Dv]
  have e0:qd=0:=by omega
  subst e0
  have em:=qc (arrOf cu) (x:=m) (by omega)
  rw [show m - (0 + 1)=m - 1 by omega,em] at p1 p2
  exact sy hO hA (by omega) BP p1 p2 h
theorem Dw {Q:Option Nat->SortSt->Prop} (hO:ri prog w A E s κ kd aC) (hA:∀ i,i < aC.size->OO o aC i=i) (h1:1<=aC.size) (hP:Pre o aC kd ig st 0)
  (h:∀ m cu,1<=m->m<=aC.size->Pre o aC kd ig cu m->tK κ o (arrOf cu) m->Q (some m) cu):wpS (model prog w) A E s (countRun' 0 aC.size) Q st:=by
 rw [countRun0_eq]
 have Zc:=hP.more hA (Nat.zero_le 1) h1
 refine wpS_bind (zX hO hA (Nat.le_refl 1) h1 Zc (fun i j i8 hj=>by omega) fun n Xk LQ QD Zd=>?_)
 have QE:=hP.more hA (Nat.zero_le n) LQ
 dsimp only
 by_cases Gi:n=aC.size
 ·rw [if_pos (by simpa using Gi)]
  exact wpS_pure (h n st Xk LQ QE QD)
 ·rw [if_neg (by simpa using Gi)]
  have fR:κ.klt (KK κ (arrOf st) n) (KK κ (arrOf st) (n - 1)):=Zd.resolve_left Gi
  by_cases Xl:n > 1
  ·rw [if_pos Xl]
   refine wpS_bind (mY hO hP.base (by omega) (by omega) ?_)
   cases NK:κ.blt (KK κ (arrOf st) 0) (KK κ (arrOf st) (n - 1))
   case true=>
    simp only [if_true]
    exact wpS_pure (h n st Xk LQ QE QD)
   case false=>
    simp only [Bool.false_eq_true,if_false]
    have le:∀ i j,i<=j->j < n->κ.kle (KK κ (arrOf st) i) (KK κ (arrOf st) j):=fun i j i8 hj=>by
     by_cases q:i=j
     ·rw [q]; exact KeyOrd.kle_refl _
     ·exact Du (QD i j (by omega) hj)
    have hF:tL κ o (arrOf st) 0 n:=⟨fun i j _ _ hi=>absurd hi (Nat.not_lt_zero _),fun i _ hi=>KeyOrd.kle_antisymm (le i (n - 1) (by omega) (by omega)) (KeyOrd.kle_trans NK (le 0 i (by omega) hi))⟩
    obtain ⟨p1,p2,p3,p4⟩:=nT hA LQ (by omega) hP hF
    refine wpS_bind (wpS_reverse (qe hO hA (by omega) p1 p2 (fun i hi=>?_) h))
    show κ.klt (KK κ (mirror _ _ _ _) n) (KK κ (mirror _ _ _ _) i)
    rw [p4 n (Nat.le_refl _)]
    exact KeyOrd.klt_of_klt_of_kle fR (p3 i hi)
  ·rw [if_neg Xl]
   have e1:n=1:=by omega
   subst e1
   exact qe hO hA (by omega) QE (fun i j i8 hj=>by omega) (fun i hi=>by rw [show i=1 - 1 by omega]; exact fR) h
theorem Dx {ok:Nat} {Q:Bool->SortSt->Prop} (hO:ri prog w A E s κ kd aC) (hA:∀ i,i < aC.size->OO o aC i=i) (Ze:1<=ok) (cg:ok<=aC.size) (hP:Pre o aC kd ig st ok) (hs:tK κ o (arrOf st) ok)
  (h:∀ cu,Pre o aC kd ig cu aC.size->tK κ o (arrOf cu) aC.size->Q true cu):wpS (model prog w) A E s (binarySort' 0 aC.size ok) Q st:=by
 rw [binarySort'_eq]
 simp only [Nat.zero_add]
 refine wpS_bind (wpS_mono (wpS_forRange (I:=fun k c cu=>c=(none,()) /\ k<=aC.size /\ Pre o aC kd ig cu k /\ tK κ o (arrOf cu) k) (Q:=fun c cu=>c=(none,()) /\ Pre o aC kd ig cu aC.size /\ tK κ o (arrOf cu) aC.size) ?step ?fin ?init) ?post)
 case init=>rw [show max ok 1=ok by omega]; exact ⟨rfl,cg,hP,hs⟩
 case post=>
  rintro c cu ⟨rfl,h1,h2⟩
  exact wpS_pure (h cu h1 h2)
 case fin=>
  rintro c cu ⟨hc,_,h1,h2⟩
  rw [show max (max ok 1) aC.size=aC.size by omega] at h1 h2
  exact ⟨hc,h1,h2⟩
 case step=>
  rintro k c cu hak QC ⟨rfl,_,mz,jY⟩
  have own:=mz.own hA (Nat.le_refl _) QC
  refine wpS_bind (wpS_mono (wpS_forRange (I:=fun x c cM=>cM=cu /\ ∃ l r,c=(none,l,r) /\ l<=r /\ r<=k /\ r - l<=k - x /\ (∀ i,i < l->lx κ (TT κ o (arrOf cu) i) (TT κ o (arrOf cu) k)) /\ (∀ i,r<=i->i < k->lx κ (TT κ o (arrOf cu) k) (TT κ o (arrOf cu) i)))
   (Q:=fun c cM=>cM=cu /\ ∃ l r,c=(none,l,r) /\ l<=k /\ (∀ i,i < l->lx κ (TT κ o (arrOf cu) i) (TT κ o (arrOf cu) k)) /\ (∀ i,l<=i->i < k->lx κ (TT κ o (arrOf cu) k) (TT κ o (arrOf cu) i))) ?istep ?ifin ?iinit) ?ipost)
  case iinit=>exact ⟨rfl,0,k,rfl,by omega,by omega,by omega,fun i hi=>by omega,fun i h1 h2=>by omega⟩
  case ifin=>
   rintro c cM ⟨rfl,l,r,rfl,a1,a2,a3,a4,a5⟩
   exact ⟨rfl,l,r,rfl,by omega,a4,fun i b1 b2=>a5 i (by omega) b2⟩
  case istep=>
   rintro x c cM _ hx ⟨rfl,l,r,rfl,a1,a2,a3,a4,a5⟩
   dsimp only
   by_cases g:l >=r
   ·rw [if_pos g]
    exact wpS_pure ⟨rfl,l,r,rfl,by omega,a4,fun i b1 b2=>a5 i (by omega) b2⟩
   ·rw [if_neg g]
    refine wpS_bind (mY hO mz.base (by omega) (by omega) ?_)
    cases q:κ.blt (KK κ (arrOf cM) k) (KK κ (arrOf cM) ((l + r) / 2))
    case true=>
     simp only [if_true]
     refine wpS_pure ⟨rfl,l,(l + r) / 2,rfl,by omega,by omega,by omega,a4,fun i b1 b2=>?_⟩
     by_cases e:i=(l + r) / 2
     ·rw [e]; exact .inl q
     ·exact qb (q:=TT κ o (arrOf cM) ((l + r) / 2)) (.inl q) (jY _ _ (by omega) b2)
    case false=>
     simp only [Bool.false_eq_true,if_false]
     have mid:lx κ (TT κ o (arrOf cM) ((l + r) / 2)) (TT κ o (arrOf cM) k):=IA q (by
      show OO o (arrOf cM) _ < OO o (arrOf cM) k
      rw [own]; exact mz.ord _ (by omega))
     refine wpS_pure ⟨rfl,(l + r) / 2 + 1,r,rfl,by omega,by omega,by omega,fun i b1=>?_,a5⟩
     by_cases e:i=(l + r) / 2
     ·rw [e]; exact mid
     ·exact qb (jY _ _ (by omega) (by omega)) mid
  case ipost=>
   rintro c cM ⟨rfl,l,r,rfl,a1,a4,a5⟩
   show wpS _ _ _ _ (do moveDown' k l; pure (ForInStep.yield (none,()))) _ _
   rw [moveDown'_eq]
   have Zf:k < (arrOf cM).size:=by rw [mz.base.size]; exact QC
   have e:∀ i,(bubble (arrOf cM) k (k - l))[i]?=if i=l then (arrOf cM)[k]? else if l < i /\ i<=k then (arrOf cM)[i - 1]? else (arrOf cM)[i]?:=fun i=>by
    rw [getElem?_bubble Zf (k - l) (by omega),show k - (k - l)=l by omega]
   have t:∀ i,TT κ o (bubble (arrOf cM) k (k - l)) i=if i=l then TT κ o (arrOf cM) k else if l < i /\ i<=k then TT κ o (arrOf cM) (i - 1) else TT κ o (arrOf cM) i:=fun i=>by
    by_cases q1:i=l
    ·rw [if_pos q1]; exact qa ((e i).trans (if_pos q1))
    ·rw [if_neg q1]
     by_cases q2:l < i /\ i<=k
     ·rw [if_pos q2]; exact qa ((e i).trans ((if_neg q1).trans (if_pos q2)))
     ·rw [if_neg q2]; exact qa ((e i).trans ((if_neg q1).trans (if_neg q2)))
   refine wpS_bind (wpS_modify (wpS_pure ⟨rfl,by omega,⟨mz.base.arr (bubble_perm _ _ _),mz.pend,fun i hi=>?_,fun i hi=>?_⟩,fun i j i8 hj=>?_⟩))
   ·show (bubble (arrOf cM) k (k - l))[i]?=_
    rw [e,if_neg (by omega),if_neg (by omega)]; exact mz.rest i (by omega)
   ·show (TT κ o (bubble (arrOf cM) k (k - l)) i).2 < k + 1
    rw [t]
    by_cases q1:i=l
    ·rw [if_pos q1]; show OO o (arrOf cM) k < k + 1; omega
    ·rw [if_neg q1]
     by_cases q2:l < i /\ i<=k
     ·rw [if_pos q2]; exact Nat.lt_succ_of_lt (mz.ord _ (by omega))
     ·rw [if_neg q2]; exact Nat.lt_succ_of_lt (mz.ord _ (by omega))
   ·show lx κ (TT κ o (bubble (arrOf cM) k (k - l)) i) (TT κ o (bubble (arrOf cM) k (k - l)) j)
    rw [t i,t j]
    by_cases i1:i=l
    ·rw [if_pos i1,if_neg (by omega),if_pos (by omega)]
     exact a5 _ (by omega) (by omega)
    ·rw [if_neg i1]
     by_cases j1:j=l
     ·rw [if_pos j1,if_neg (by omega)]
      exact a4 i (by omega)
     ·rw [if_neg j1]
      by_cases i2:l < i /\ i<=k
      ·rw [if_pos i2,if_pos (by omega)]
       exact jY _ _ (by omega) (by omega)
      ·rw [if_neg i2]
       by_cases j2:l < j /\ j<=k
       ·rw [if_pos j2]
        exact jY _ _ (by omega) (by omega)
       ·rw [if_neg j2]
        exact jY _ _ (by omega) (by omega)
theorem Dy {Q:Unit->SortSt->Prop} (hO:ri prog w A E s κ kd aC) (hA:∀ i,i < aC.size->OO o aC i=i) (hB:Ba aC kd st) (he:arrOf st=aC) (hp:pendingOf st=#[]) (h2:2<=aC.size) (uQ:aC.size < 64)
  (h:∀ cu,Ba aC kd cu->tK κ o (arrOf cu) aC.size->Q () cu):wpS (model prog w) A E s sortRuns' Q st:=by
 have hP:Pre o aC kd #[] st 0:=⟨hB,hp,fun i _=>by rw [he],fun i hi=>absurd hi (Nat.not_lt_zero _)⟩
 rw [sortRuns'_eq]
 refine wpS_bind (wpS_get ?_)
 dsimp only
 have Zg:minRun' aC.size aC.size 0=aC.size:=by
  obtain ⟨f,hf⟩:∃ f,aC.size=f + 1:=⟨aC.size - 1,by omega⟩
  have:minRun' (f + 1) aC.size 0=aC.size:=by rw [minRun'_succ,if_pos uQ]; rfl
  rwa [<- hf] at this
 simp only [hB.size,Zg]
 have done:∀ cM:SortSt,Pre o aC kd #[] cM aC.size->tK κ o (arrOf cM) aC.size->Ba aC kd (setPending cM ((pendingOf cM).push (0,aC.size,0))) /\ pendingOf (setPending cM ((pendingOf cM).push (0,aC.size,0)))=#[(0,aC.size,0)] /\ tK κ o (arrOf (setPending cM ((pendingOf cM).push (0,aC.size,0)))) aC.size:=fun cM E3 kA=>
  ⟨⟨E3.base.perm,E3.base.kind,E3.base.failed⟩,by show (pendingOf cM).push _=_; rw [E3.pend]; rfl,kA⟩
 refine wpS_bind (wpS_mono (wpS_forRange
  (I:=fun x c cu=>(x=0 /\ c=(none,0) /\ Pre o aC kd #[] cu 0) \/ (1<=x /\ c=(none,aC.size) /\ Ba aC kd cu /\ pendingOf cu=#[(0,aC.size,0)] /\ tK κ o (arrOf cu) aC.size))
  (Q:=fun c cu=>c=(none,aC.size) /\ Ba aC kd cu /\ pendingOf cu=#[(0,aC.size,0)] /\ tK κ o (arrOf cu) aC.size) ?step ?fin (.inl ⟨rfl,rfl,hP⟩)) ?post)
 case fin=>
  rintro c cu (⟨hx,_,_⟩ | ⟨_,hc,hD⟩)
  ·omega
  ·exact ⟨hc,hD⟩
 case step=>
  rintro x c cu _ hx (⟨rfl,rfl,mz⟩ | ⟨Xm,rfl,hD⟩)
  ·dsimp only
   rw [if_neg (by omega)]
   simp only [Nat.sub_zero,Nat.min_self,Nat.zero_add]
   refine wpS_bind (Dw hO hA (by omega) mz fun m cM IB BP E3 kA=>?_)
   dsimp only
   by_cases fR:m < aC.size
   ·rw [if_pos fR]
    refine wpS_bind (wpS_lift (wpAny_rule ⟨rfl,?_⟩))
    refine wpS_bind (Dx hO hA IB BP E3 kA fun B3 Xn Nh=>?_)
    simp only [Bool.not_true,Bool.false_eq_true,if_false]
    refine wpS_bind (wpS_get ?_)
    have hb:(pendingOf B3).back?=none:=by rw [Xn.pend]; rfl
    rw [hb]
    dsimp only
    exact wpS_bind (wpS_modify (wpS_pure (.inr ⟨by omega,rfl,done B3 Xn Nh⟩)))
   ·rw [if_neg fR]
    have hm:m=aC.size:=by omega
    subst hm
    refine wpS_bind (wpS_get ?_)
    have hb:(pendingOf cM).back?=none:=by rw [E3.pend]; rfl
    rw [hb]
    dsimp only
    exact wpS_bind (wpS_modify (wpS_pure (.inr ⟨by omega,rfl,done cM E3 kA⟩)))
  ·dsimp only
   rw [if_pos (Nat.le_refl _)]
   exact wpS_pure ⟨rfl,hD⟩
 case post=>
  rintro c cu ⟨rfl,hD⟩
  dsimp only
  refine wpS_bind (wpS_mono (wpS_forRange (I:=fun _ c Dz=>Dz=cu /\ c=(none,())) (Q:=fun c Dz=>Dz=cu /\ c=(none,())) ?_ (fun _ _ hh=>hh) ⟨rfl,rfl⟩) ?_)
  ·rintro x c Dz _ _ ⟨rfl,rfl⟩
   refine wpS_bind (wpS_get ?_)
   rw [if_pos (by rw [hD.2.1]; exact Nat.le_refl 1)]
   exact wpS_pure ⟨rfl,rfl⟩
  ·rintro c Dz ⟨rfl,rfl⟩
   exact wpS_pure (h _ hD.1 hD.2.2)
end
end KS
namespace KS
open PySem PySem.W PyProof.Rows
abbrev T2:=Int×Int
def jZ (a b:T2):Prop:=a.1 < b.1 \/ a.1=b.1 /\ a.2 < b.2
instance (a b:T2):Decidable (jZ a b):=by unfold jZ; exact inferInstance
theorem gv (a:T2):¬ jZ a a:=by unfold jZ; omega
theorem kJ {a b c:T2} (h:jZ a b) (k:jZ b c):jZ a c:=by unfold jZ at *; omega
theorem zY {a c:T2} (b:T2) (h:jZ a c):jZ a b \/ jZ b c:=by unfold jZ at *; omega
theorem nU {a b:T2} (h:¬ jZ a b) (k:¬ jZ b a):a=b:=by unfold jZ at *; exact Prod.ext (by omega) (by omega)
def K2 (key:Value->T2):KeyKind where
 α:=T2
 blt:=fun a b=>decide (jZ a b)
 irrefl:=fun a=>decide_eq_false (gv a)
 trans:=fun a b c h k=>decide_eq_true (kJ (of_decide_eq_true h) (of_decide_eq_true k))
 negTrans:=fun a b c h=>(zY b (of_decide_eq_true h)).imp decide_eq_true decide_eq_true
 total:=fun a b h k=>nU (of_decide_eq_false h) (of_decide_eq_false k)
 keyOf:=fun v=>some (key v)
 dflt:=(0,0)
def OJ (h:Heap) (v:Value) (t:T2):Prop:=∃ (p:Addr) (o:Obj) (n:Nat) (t1 t2:Tok),v=.ref p /\ h.get? p=some o /\ o.cls=.type "tuple" /\ o.data=.seq #[.int t.1 t1,.int t.2 t2] n
inductive KV (h:Heap):SortKind->Value->T2->Prop
 | int (n:Int) (t:Tok):KV h oneType' (.int n t) (n,0)
 | dup {v:Value} {t:T2} (d:OJ h v t):KV h (tuples' true) v t
theorem DA {h:Heap} {kd Qk:SortKind} {v:Value} {t u:T2} (a:KV h kd v t) (b:KV h Qk v u):t=u:=by
 cases a with
 | int n t=>
   cases b with
   | int n t=>rfl
   | dup d=>obtain ⟨p,o,n,t1,t2,e,_⟩:=d; cases e
 | dup d=>
   obtain ⟨p,o,n,t1,t2,rfl,g1,_,d1⟩:=d
   cases b with
   | dup d=>
     obtain ⟨p',o',n',u1,u2,e,g2,_,d2⟩:=d
     cases e
     rw [g1] at g2
     cases g2
     rw [d1] at d2
     simp only [Data.seq.injEq,Array.mk.injEq,List.cons.injEq,Value.int.injEq] at d2
     obtain ⟨⟨⟨a1,_⟩,⟨a2,_⟩,_⟩,_⟩:=d2
     exact Prod.ext a1 a2
open Classical in
def qf (h:Heap) (v:Value):T2:=if x:∃ kd t,KV h kd v t then x.choose_spec.choose else (0,0)
theorem zZ {h:Heap} {kd:SortKind} {v:Value} {t:T2} (a:KV h kd v t):qf h v=t:=by
 have x:∃ kd t,KV h kd v t:=⟨kd,t,a⟩
 unfold qf
 rw [dif_pos x]
 exact DA x.choose_spec.choose_spec a
section
variable {prog:Program} {w:World} {A:Around} {E:Value->Shared->Prop} {s:Shared} {kd:SortKind}
theorem NL {x y:Value} {a b:T2} {Q:Bool->Shared->Prop} (hx:KV s.heap kd x a) (hy:KV s.heap kd y b) (h:Q (decide (jZ a b)) s):wpAny (model prog w) A (keyLt' kd x y) Q E s:=by
 have hd:∀ {z:Value} {c:T2} {k:SortKind},KV s.heap k z c->k=tuples' true->OJ s.heap z c:=fun {z c k} q e=>by
  cases q with
  | int n t=>cases e
  | dup d=>exact d
 cases hx with
 | int n t=>
   have:∃ m u,y=.int m u /\ b=(m,0):=by
    generalize hk:oneType'=k at hy
    cases hy with
    | int m u=>exact ⟨m,u,rfl,rfl⟩
    | dup d=>cases hk
   obtain ⟨m,u,rfl,rfl⟩:=this
   rw [keyLt'_oneType]
   refine oneLt_int ?_
   rw [show decide (n < m)=decide (jZ (n,0) (m,0)) from decide_eq_decide.mpr (by unfold jZ; omega)]
   exact h
 | dup hx=>
   have hy:=hd hy rfl
   obtain ⟨p,o,n,t1,t2,rfl,g1,_,d1⟩:=hx
   obtain ⟨q,o',n',u1,u2,rfl,g2,_,d2⟩:=hy
   refine kat_lt g1 d1 g2 d2 ?_
   have one:∀ (i j:Int) (t u:Tok),Q (decide (i < j)) s->wpAny (model prog w) A (oneLt' false (.int i t) (.int j u)) Q (fun _ _=>False) s:=fun i j t u hq=>
    kat_one _ _ (wpAny_lt_int hq)
   refine kat_cons (wpAny_eqBool_int (kat_go (fun e=>kat_yes ?_) fun e=>kat_no ?_))
   ·have e:a.1=b.1:=by simpa using e
    refine kat_cons (wpAny_eqBool_int (kat_go (fun e2=>kat_yes (kat_nil ?_)) fun e2=>kat_no ?_))
    ·have e2:a.2=b.2:=by simpa using e2
     have:¬ jZ a b:=by unfold jZ; omega
     rw [decide_eq_false this] at h
     exact h
    ·refine one _ _ _ _ ?_
     rw [show decide (a.2 < b.2)=decide (jZ a b) from decide_eq_decide.mpr (by unfold jZ; omega)]
     exact h
   ·have e:a.1≠b.1:=by simpa using e
    refine oneLt_int ?_
    rw [show decide (a.1 < b.1)=decide (jZ a b) from decide_eq_decide.mpr (by unfold jZ; omega)]
    exact h
theorem Gm {vs:List Value} {key:Value->T2} {Q:SortKind->Shared->Prop} (h2:2<=vs.length) (hT:∀ v∈vs,KV s.heap kd v (key v)) (h:Q kd s):wpAny (model prog w) A (keyKind' vs.toArray) Q E s:=by
 obtain ⟨v0,Zh⟩:∃ v,v∈vs:=by cases vs with
  | nil=>simp at h2
  | cons v _=>exact ⟨v,List.mem_cons_self⟩
 have h0:=hT v0 Zh
 generalize key v0=t0 at h0
 cases h0 with
 | int n t=>
   have hI:IntsAre vs (vs.map numOf):=intsAre_map vs fun v hv=>by
    have:=hT v hv
    generalize key v=t1 at this
    generalize hk:oneType'=k at this
    cases this with
    | int m u=>exact ⟨m,u,rfl⟩
    | dup d=>cases hk
   match vs,h2,hI with
   | Zi :: Zj :: rest,_,hI=>rw [keyKind_ints hI]; exact wpAny_pure h
 | dup d0=>
   have hD:∀ v∈vs,OJ s.heap v (key v):=fun v hv=>by
    have:=hT v hv
    generalize hk:tuples' true=k at this
    generalize key v=t1 at this ⊢
    cases this with
    | int m u=>cases hk
    | dup d=>exact d
   have pz:∀ {l:List Value},(∀ v∈l,OJ s.heap v (key v))->∃ fs:List Value,KatTups s.heap l fs /\ fs.length=l.length /\ ∀ f∈fs,∃ n t,f=.int n t:=by
    intro l
    induction l with
    | nil=>exact fun _=>⟨[],.nil,rfl,by simp⟩
    | cons v l ih=>
      intro hl
      obtain ⟨fs,h1,h2,h3⟩:=ih fun u hu=>hl u (List.mem_cons_of_mem _ hu)
      obtain ⟨p,o,n,t1,t2,rfl,g1,c1,d1⟩:=hl v List.mem_cons_self
      refine ⟨_ :: fs,.cons g1 c1 d1 (f:=.int _ t1) rfl h1,by simp [h2],fun f hf=>?_⟩
      rcases List.mem_cons.mp hf with rfl | hf
      ·exact ⟨_,_,rfl⟩
      ·exact h3 f hf
   obtain ⟨fs,h1,JU,h3⟩:=pz hD
   refine kat_kind (T:=.type "int") h1 (by omega) (fun v hv=>?_) (by decide) h
   obtain ⟨n,t,rfl⟩:=h3 v hv
   exact .now
def kf (aC:Array Keyed) (p:Keyed):Nat:=open Classical in if x:∃ i,aC[i]?=some p then x.choose else 0
theorem z0 {aC:Array Keyed} (z4:aC.toList.Nodup) {i:Nat} (hi:i < aC.size):OO (kf aC) aC i=i:=by
 have e:aC[i]?=some aC[i]:=getElem?_pos _ i hi
 have x:∃ j,aC[j]?=some aC[i]:=⟨i,e⟩
 unfold OO
 rw [e]
 show kf aC aC[i]=i
 unfold kf
 rw [dif_pos x]
 have h:=x.choose_spec
 rw [<- Array.getElem?_toList] at h e
 exact (List.getElem?_inj (by simpa using hi) z4).mp (e.trans h.symm) |>.symm
theorem Gn {a kS:Addr} {us:List Value} {keys:Array Value} {e e1:Nat} {P:PySem.Fin->Shared->Prop} (hk:s.heap.get? kS=some (seqObj "list" keys e)) (ha:s.heap.get? a=some (seqObj "list" #[] e1)) (E4:kS≠a)
  (LR:∀ v∈keys.toList,∃ t,KV s.heap kd v t) (hsz:keys.size=us.length) (uQ:us.length < 64) (hu:us.Nodup)
  (h:∀ (h':Heap) (out:Array Keyed) (c:Nat),(∀ b o,b≠a->b≠kS->s.heap.get? b=some o->h'.get? b=some o)->(∃ o,h'.get? kS=some o)->h'.get? a=some (seqObj "list" (out.map (·.2)) c)->out.Perm (keys.zip us.toArray)->tK (K2 (qf s.heap)) (kf (keys.zip us.toArray)) out us.length->P (.done (.ret .none)) { s with heap:=h' }):
  wpAny (model prog w) A (ksk_end a false us.toArray e1 (.ref kS) keys) P E s:=by
 have hz:us.length<=sizeLine:=by rw [sizeLine_eq]; omega
 have KG:(keys.zip us.toArray).size=us.length:=by rw [Array.size_zip,hsz,List.size_toArray,Nat.min_self]
 have z4:(keys.zip us.toArray).toList.Nodup:=by
  rw [ksk_zip]
  have:((keys.toList.zip us).map Prod.snd).Nodup:=by rw [List.map_snd_zip (Nat.le_of_eq (by rw [Array.length_toList]; exact hsz.symm))]; exact hu
  exact (List.pairwise_map.mp this).imp fun q z=>q (congrArg Prod.snd z)
 have tail:∀ st:SortSt,(arrOf st).Perm (keys.zip us.toArray)->failedOf st=none->tK (K2 (qf s.heap)) (kf (keys.zip us.toArray)) (arrOf st) us.length->wpAny (model prog w) A (ksk_tail a false e1 (.ref kS) st) P E s:=by
  intro st hp hf hi
  have KH:((arrOf st).map (·.2)).size=us.length:=by rw [Array.size_map,hp.size_eq,KG]
  have s1:=Heap.SameBut.update s.heap kS (Obj.mapSeq fun _=>(#[]:Array Value))
  obtain ⟨ck,Zk⟩:∃ c,(s.heap.update kS (Obj.mapSeq fun _=>(#[]:Array Value))).get? kS=some (seqObj "list" #[] c):=⟨_,get?_update_seq hk fun _=>#[]⟩
  have QG:(s.heap.update kS (Obj.mapSeq fun _=>(#[]:Array Value))).get? a=some (seqObj "list" #[] e1):=(s1.2 a E4.symm).trans ha
  have s2:=Heap.SameBut.update (s.heap.update kS (Obj.mapSeq fun _=>(#[]:Array Value))) a (Obj.mapSeq fun _=>(arrOf st).map (·.2))
  obtain ⟨c2,Jr⟩:∃ c2,((s.heap.update kS (Obj.mapSeq fun _=>(#[]:Array Value))).update a (Obj.mapSeq fun _=>(arrOf st).map (·.2))).get? a=some (seqObj "list" ((arrOf st).map (·.2)) c2):=⟨_,get?_update_seq QG fun _=>(arrOf st).map (·.2)⟩
  unfold ksk_tail
  dsimp only
  refine wpAny_bind (listUpdate_at hk rfl ?_ (by rw [hsz]; exact hz) (Nat.zero_le _))
  refine wpAny_bind (wpAny_letGo ?_)
  refine wpAny_bind (seqEpoch_at QG rfl ?_)
  simp only [Bool.false_eq_true,if_false]
  refine wpAny_bind (listUpdate_at QG rfl ?_ (Nat.zero_le _) (Nat.le_trans (Nat.le_of_eq KH) (Nat.le_succ_of_le hz)))
  rw [hf]
  simp only [bne_self_eq_false,Bool.false_eq_true,if_false]
  exact wpAny_pure (h _ _ c2 (fun b o h1 h2 eb=>(s2.2 b h1).trans ((s1.2 b h2).trans eb)) ⟨_,(s2.2 kS E4).trans Zk⟩ Jr hp hi)
 unfold ksk_end
 simp only [Bool.false_eq_true,if_false]
 by_cases h2:us.toArray.size < 2
 ·rw [if_pos h2,if_pos h2]
  refine wpAny_bind (wpAny_pure ?_)
  rw [StateT.run_pure]
  refine wpAny_bind (wpAny_pure ?_)
  rw [List.size_toArray] at h2
  exact tail (SortSt.mk' general' (keys.zip us.toArray) #[] 7 none) (.refl _) rfl fun i j i8 hj=>by omega
 ·rw [if_neg h2,if_neg h2]
  rw [List.size_toArray] at h2
  have KJ:∀ v∈keys.toList,KV s.heap kd v (qf s.heap v):=fun v hv=>by
   obtain ⟨t,ht⟩:=LR v hv
   rw [zZ ht]
   exact ht
  have ek:keys=keys.toList.toArray:=by rw [Array.toArray_toList]
  rw [ek]
  refine wpAny_bind (Gm (key:=qf s.heap) (by rw [Array.length_toList]; omega) KJ ?_)
  rw [<- ek]
  have hO:ri prog w A E s (K2 (qf s.heap)) kd (keys.zip us.toArray):=fun x y hx hy E' Q hq=>by
   rw [ksk_zip] at hx hy
   exact NL (KJ _ (List.of_mem_zip hx).1) (KJ _ (List.of_mem_zip hy).1) hq
  refine wpAny_bind (wpAny_mono (Dy (o:=kf (keys.zip us.toArray)) (st:=SortSt.mk' kd (keys.zip us.toArray) #[] 7 none) (Q:=fun _ cu=>Ba (keys.zip us.toArray) kd cu /\ tK (K2 (qf s.heap)) (kf (keys.zip us.toArray)) (arrOf cu) (keys.zip us.toArray).size) hO (fun i hi=>z0 z4 hi) ⟨.refl _,rfl,rfl⟩ rfl rfl (by rw [KG]; omega) (by rw [KG]; exact uQ) fun cu b u=>⟨b,u⟩) ?_ fun _ _ e=>e)
  rintro ⟨⟨⟩,cu⟩ s' ⟨rfl,hB,hi⟩
  rw [KG] at hi
  exact tail cu hB.perm hB.failed hi
end
end KS
namespace L2
open PySem PySem.Spec PyProof.Rows PySem.Calls
def Gp (K:PySem.W.Frag) (c:Addr) (q:Str) (n:Nat) (cvs:List V) (gb:DS->Option D):Sp:=fun vs H Q _=>H c=some (.code q) /\ vs.length=n /\ ∃ A ds d,Ls A H /\ cv K (wo H A) (vs ++ cvs) ds /\ gb (ds.map some)=some d /\ ∀ v H',aH H H'->HD K (wo H' A) v d->Q v H'
section
variable {X:Cx} {pins:List (Addr×Obj)} {σ:St} {H:Hp} {s:Shared}
theorem KL {k:Nat} {f c':Addr} {name qual:Str} {params:Arguments} {body:Expr} {scope:Scope} {cl:List (Str×Addr)} {pm xn:Value} {ps fv:List Str} {ix:List Nat} {cvs:List V} {gb:DS->Option D} (I:Inv X pins σ H s)
  (hf:s.heap.get? f=some (PySem.W.kla_obj name qual params body scope cl pm c' xn)) (hn:H f=none) (mV:f∉lj X.stack) (h1:∀ n c,cl.lookup n=some c->X.env.cells.lookup n=some c) (h2:∀ n,(n,NameKind.free)∈scope.names->∃ c,cl.lookup n=some c)
  (IT:∀ x,X.fn x=true) (S:NC ps fv scope) (xm:ix.map (fun i=>X.N[i]?)=fv.map some) (Gq:∀ x∈fv,X.env.scope.names.lookup x=some .cell) (Gr:∀ (j i:Nat) (v:V),ix[j]?=some i->cvs[j]?=some v->σ[i]?=some (some v)) (hlen:cvs.length=ix.length)
  (j4:∀ (base:Heap) (A:Around) (outer:List Env) (s:Shared) (H:Hp) (E:XK),c8 k (A.deeper (PySem.W.envX qual scope s.heap.objs.size f (.ref c') cl))->PE (Dl oX X.prog X.w X.K X.mg base (ps ++ fv) qual scope f (.ref c') cl A outer s H E) body (tE X.K [] gb)):
  lF X.prog X.w X.K X.mg (p9 X s H) oX (k + 1) f (PySem.W.kla_fn name qual params body scope cl pm (.ref c') xn) ps (Gp X.K c' qual ps.length cvs gb):=by
 have Zl:fv.length=ix.length:=by have:=congrArg List.length xm; simpa using this.symm
 have IS:∀ {x:Str} {c:Addr},X.env.cells.lookup x=some c->c∉lj X.stack:=fun {x c} e z=>by
  rcases List.mem_cons.mp (I.lC c z) with y | y
  ·exact I.HJ x c e y
  ·obtain ⟨_,o,ho,_⟩:=I.ok.mC.mem y
   exact Nat.lt_irrefl _ (Nat.lt_of_lt_of_le (Heap.lt_size ho) (I.ok.IQ x c (IT x) e))
 have IC:∀ {x:Str} {c:Addr} {v:Option Value},X.env.cells.lookup x=some c->s.heap.IsCell c v->(p9 X s H).IsCell c v:=fun {x c v} e h=>by
  obtain ⟨o,e1,d⟩:=h
  exact ⟨o,nS e1 (I.jM x c e) (IS e),d⟩
 refine Ny (cvs:=cvs) (nS hf hn mV) ⟨S.kind,S.co,S.gen,S.nQ,S.nd,S.par,S.fr,fun x hx=>h2 x (PySem.mem_of_lookup hx),fun x y c a b=>I.ok.inj x y c (h1 _ _ a) (h1 _ _ b)⟩ (by rw [hlen,Zl]) (fun j x v e1 e2=>?_) (fun x c e=>?_) (fun vs H Q E q=>q.2.1) (fun vs H Q E q=>q.1) fun A outer s' H' vs Q E hr zq=>?_
 ·obtain ⟨c,hc⟩:=h2 x (PySem.mem_of_lookup (S.fr x (List.mem_of_getElem? e1)))
  have hj:j < ix.length:=by rw [<- hlen]; exact (List.getElem?_eq_some_iff.mp e2).1
  have hi:ix[j]?=some ix[j]:=List.getElem?_eq_getElem hj
  have hN:X.N[ix[j]]?=some x:=by
   have:=congrArg (fun l=>l[j]?) xm
   simp only [List.getElem?_map,hi,e1] at this
   simpa using this
  obtain ⟨m,_,hl⟩:=I.loc
  obtain ⟨u,ru,lk⟩:=hl _ x _ hN (Gr j _ v hi e2) (.inr (.inl (Gq x (List.mem_of_getElem? e1))))
  refine ⟨c,u,hc,?_,ru⟩
  rcases lk with ⟨z,_⟩ | ⟨_,c0,e0,zm⟩
  ·have:=Gq x (List.mem_of_getElem? e1)
   unfold Env.kindOf at z
   rw [this] at z; cases z
  ·rw [h1 x c hc] at e0; cases e0
   exact IC (h1 x c hc) zm
 ·obtain ⟨v,hv⟩:=I.cell x c (h1 x c e)
  exact ⟨v,IC (h1 x c e) hv⟩
 ·obtain ⟨_,hl,A',ds,d,al,hd,e,q⟩:=zq
  exact ⟨_,j4 _ A outer s' H' E hr,[],A',ds.map some,d,Rel.KC al hd,e,q⟩
structure KI (X:Cx) (pins:List (Addr×Obj)) (σ:St) (B:Heap) (a kS:Addr) (e1:Nat) (H:Hp) (s:Shared) (keys:Array Value) (e:Nat):Prop where
 inv:Inv X pins σ H s
 bs:∀ b o,B.get? b=some o->s.heap.get? b=some o /\ H b=none
 zl:B.objs.size<=kS
 fa:jU X pins H a
 fk:jU X pins H kS
 na:a∉lj X.stack
 nk:kS∉lj X.stack
 ga:s.heap.get? a=some (seqObj "list" #[] e1)
 gk:s.heap.get? kS=some (seqObj "list" keys e)
variable {B:Heap} {a kS:Addr} {e e1:Nat} {keys:Array Value}
theorem jU.un {b:Addr} {H':Hp} (h:jU X pins H b) (n:H' b=none):jU X pins H' b:=⟨n,h.2.1,h.2.2.1,h.2.2.2.1,h.2.2.2.2.1,h.2.2.2.2.2⟩
theorem KI.env (I:KI X pins σ B a kS e1 H s keys e) (hM:Mod X.K X.mg B) (LU:∀ b∈lj X.stack,B.get? b=none):Cb X.prog X.w X.K X.mg B X.A.in1.in1 X.stack s H:=
 ⟨I.inv.ok.frames,hM,I.bs,Nat.le_of_lt (Nat.lt_of_le_of_lt I.zl (Heap.lt_size I.gk)),su I.inv.stack LU,I.inv.sJ,I.inv.cg,I.inv.bare⟩
set_option tactic.hygienic true in
theorem KI.call {Q:VK} {u:Value} {s':Shared} (I:KI X pins σ B a kS e1 H s keys e) (LU:∀ b∈lj X.stack,B.get? b=none) (h:CE X.stack X.prog X.w H s Q u s'):∃ v H',KI X pins σ B a kS e1 H' s' keys e /\ RelV v u /\ Q v H':=by
 obtain ⟨v,H',os,bare,un,cg,r,q⟩:=id h
 obtain ⟨v2,H2,I2,_⟩:=(I.inv.after (Q:=fun v2 H2=>v2=v /\ H2=H') ⟨v,H',os,bare,un,cg,r,rfl,rfl⟩)
 rename_i rr
 obtain ⟨_,rfl,rfl⟩:=rr
 have no:∀ {b:Addr},b∉([]:List Addr):=fun {b}=>by simp
 refine ⟨v2,H2,⟨I2,fun b o eb=>?_,I.zl,I.fa.un (un.free _ _ I.ga I.fa.1 no),I.fk.un (un.free _ _ I.gk I.fk.1 no),I.na,I.nk,un.keep _ _ I.ga I.fa.1 I.na no,un.keep _ _ I.gk I.fk.1 I.nk no⟩,r,q⟩
 ·obtain ⟨h1,h2⟩:=I.bs b o eb
  exact ⟨un.keep _ _ h1 h2 (fun z=>by rw [LU b z] at eb; cases eb) no,un.free _ _ h1 h2 no⟩
theorem KI.push (I:KI X pins σ B a kS e1 H s keys e) (E4:kS≠a) (k:Value):∃ e',KI X pins σ B a kS e1 H { s with heap:=s.heap.update kS (Obj.mapSeq (·.push k)) } (keys.push k) e':=by
 have sb:=Heap.SameBut.update s.heap kS (Obj.mapSeq (·.push k))
 obtain ⟨e',Ke⟩:∃ e',(s.heap.update kS (Obj.mapSeq (·.push k))).get? kS=some (seqObj "list" (keys.push k) e'):=⟨_,get?_update_seq I.gk (·.push k)⟩
 refine ⟨e',⟨I.inv.fV (t':=s.toks) (ch:=[kS]) (fun b o hb eb=>(sb.2 b (by simpa using hb)).trans eb) (fun b hb=>by rw [show b=kS by simpa using hb]; exact I.fk),fun b o eb=>?_,I.zl,I.fa,I.fk,I.na,I.nk,(sb.2 a E4.symm).trans I.ga,Ke⟩⟩
 have iJ:b≠kS:=Nat.ne_of_lt (Nat.lt_of_lt_of_le (Heap.lt_size eb) I.zl)
 exact ⟨(sb.2 b iJ).trans (I.bs b o eb).1,(I.bs b o eb).2⟩
end
def tM (ts:List KS.T2) (r:List Nat):Prop:=r.Perm (List.range ts.length) /\ r.Pairwise fun i j=>KS.jZ (ts.getD i (0,0)) (ts.getD j (0,0)) \/ ts.getD i (0,0)=ts.getD j (0,0) /\ i < j
def E5 (kds:List D) (ts:List KS.T2):Prop:=(∃ ns:List Int,kds=ns.map PyData.int /\ ts=ns.map fun n=>(n,0)) \/ kds=ts.map fun t=>PyData.tuple [.int t.1,.int t.2]
theorem E5.len {kds:List D} {ts:List KS.T2} (h:E5 kds ts):kds.length=ts.length:=by
 rcases h with ⟨ns,rfl,rfl⟩ | rfl <;> simp
theorem ID {X:Cx} {pins:List (Addr×Obj)} {σ:St} {H:Hp} {s:Shared} {A:List Addr} {kds:List D} {ts:List KS.T2} {aQ:List V} {vs:List Value} (I:Inv X pins σ H s) (h:cv X.K (wo H A) aQ kds) (hK:E5 kds ts) (r:bw aQ vs):
  ∃ kd,∀ (i:Nat) (v:Value) (t:KS.T2),vs[i]?=some v->ts[i]?=some t->KS.KV s.heap kd v t:=by
 rcases hK with ⟨ns,rfl,rfl⟩ | rfl
 ·refine ⟨oneType',fun i v t e1 e2=>?_⟩
  rw [List.getElem?_map] at e2
  cases q:ns[i]? with
  | none=>rw [q] at e2; cases e2
  | some n=>
    rw [q] at e2; cases e2
    obtain ⟨x,e3,e4⟩:=h.get (i:=i) (d:=.int n) (by rw [List.getElem?_map,q]; rfl)
    cases e4
    obtain ⟨u,e5,t,rfl⟩:=r.get e3
    rw [e1] at e5; cases e5
    exact .int n t
 ·refine ⟨tuples' true,fun i v t e1 e2=>.dup ?_⟩
  obtain ⟨x,e3,e4⟩:=h.get (i:=i) (d:=.tuple [.int t.1,.int t.2]) (by rw [List.getElem?_map,e2]; rfl)
  obtain ⟨u,e5,rx⟩:=r.get e3
  rw [e1] at e5; cases e5
  cases e4 with
  | tup h1 h2=>
    rw [cv.toInts (ns:=[t.1,t.2]) h2] at h1
    cases rx
    obtain ⟨is,r2,pt,_⟩:=I.tuple (.inl (cb.lH h1))
    cases r2 with
    | cons a1 r2=>
      cases r2 with
      | cons a2 r2=>
        cases r2
        obtain ⟨t1,rfl⟩:=a1
        obtain ⟨t2,rfl⟩:=a2
        obtain ⟨o,g1,g2,n,g3⟩:=pt
        exact ⟨_,o,n,t1,t2,rfl,g1,g2,g3⟩
theorem DB {aC:Array Keyed} {p:Keyed} (h:p∈aC.toList):aC[KS.kf aC p]?=some p:=by
 have x:∃ i:Nat,aC[i]?=some p:=by
  obtain ⟨i,hi,e⟩:=List.getElem_of_mem h
  exact ⟨i,by rw [<- Array.getElem?_toList,List.getElem?_eq_getElem hi,e]⟩
 unfold KS.kf
 rw [dif_pos x]
 exact x.choose_spec
theorem vZ {xs:List V} {us:List Value} {keys:Array Value} (rv:bw xs us):∀ l:List Keyed,(∀ p∈l,p∈(keys.zip us.toArray).toList)->bw ((l.map (KS.kf (keys.zip us.toArray))).map fun i=>xs.getD i .h8) (l.map (·.2))
 | [],_=>.nil
 | p :: l,h=>by
   refine .cons ?_ (vZ rv l fun q hq=>h q (List.mem_cons_of_mem _ hq))
   have e:=DB (h p List.mem_cons_self)
   generalize KS.kf (keys.zip us.toArray) p=i at e ⊢
   rw [<- Array.getElem?_toList,ksk_zip,List.getElem?_zip_eq_some] at e
   have hi:i < xs.length:=by rw [rv.length]; exact (List.getElem?_eq_some_iff.mp e.2).1
   obtain ⟨u,e3,r2⟩:=rv.get (List.getElem?_eq_getElem hi)
   rw [e.2] at e3; cases e3
   show RelV (xs.getD i .h8) _
   rw [List.getD_eq_getElem?_getD,List.getElem?_eq_getElem hi]
   exact r2
theorem KN {ts:List KS.T2} {us:List Value} {keys:Array Value} {h:Heap} {kd:SortKind} {out:Array Keyed} (hsz:keys.size=us.length) (hl:us.length=ts.length) (hu:us.Nodup) (LR:∀ (i:Nat) (v:Value) (t:KS.T2),keys.toList[i]?=some v->ts[i]?=some t->KS.KV h kd v t)
  (hp:out.Perm (keys.zip us.toArray)) (hi:KS.tK (KS.K2 (KS.qf h)) (KS.kf (keys.zip us.toArray)) out us.length):tM ts (out.toList.map (KS.kf (keys.zip us.toArray))):=by
 have KG:(keys.zip us.toArray).size=us.length:=by rw [Array.size_zip,hsz,List.size_toArray,Nat.min_self]
 have z4:(keys.zip us.toArray).toList.Nodup:=by
  rw [ksk_zip]
  have:((keys.toList.zip us).map Prod.snd).Nodup:=by rw [List.map_snd_zip (Nat.le_of_eq (by rw [Array.length_toList]; exact hsz.symm))]; exact hu
  exact (List.pairwise_map.mp this).imp fun q z=>q (congrArg Prod.snd z)
 have lp:=Array.perm_iff_toList_perm.mp hp
 constructor
 ·refine (lp.map _).trans (List.Perm.of_eq ?_)
  refine List.ext_getElem (by rw [List.length_map,Array.length_toList,KG,List.length_range,hl]) fun i h1 h2=>?_
  rw [List.getElem_map,List.getElem_range]
  have Gh:i < (keys.zip us.toArray).size:=by simpa using h1
  have:=KS.z0 z4 Gh
  unfold KS.OO at this
  rw [getElem?_pos _ i Gh] at this
  exact this
 ·rw [List.pairwise_iff_getElem]
  intro i j h1 h2 i8
  have hs:out.size=us.length:=hp.size_eq.trans KG
  have Ih:i < out.size:=by simpa using h1
  have JU:j < out.size:=by simpa using h2
  have key:∀ (m:Nat) (hm:m < out.size),KK (KS.K2 (KS.qf h)) out m=ts.getD (KS.kf (keys.zip us.toArray) out[m]) (0,0):=fun m hm=>by
   have mem:out[m]∈(keys.zip us.toArray).toList:=lp.mem_iff.mp (by simp)
   have e:=DB mem
   unfold KK
   rw [getElem?_pos _ m hm]
   show KS.qf h out[m].1=_
   generalize KS.kf (keys.zip us.toArray) out[m]=q at e ⊢
   rw [<- Array.getElem?_toList,ksk_zip,List.getElem?_zip_eq_some] at e
   have hq:q < ts.length:=by rw [<- hl]; exact (List.getElem?_eq_some_iff.mp e.2).1
   have et:ts[q]?=some ts[q]:=List.getElem?_eq_getElem hq
   rw [KS.zZ (LR q _ _ e.1 et),List.getD_eq_getElem?_getD,et]; rfl
  have ord:∀ (m:Nat) (hm:m < out.size),KS.OO (KS.kf (keys.zip us.toArray)) out m=KS.kf (keys.zip us.toArray) out[m]:=fun m hm=>by
   unfold KS.OO
   rw [getElem?_pos _ m hm]; rfl
  have z:=hi i j i8 (by omega)
  rw [List.getElem_map,List.getElem_map,Array.getElem_toList,Array.getElem_toList]
  unfold KS.lx KS.TT at z
  rw [key i Ih,key j JU,ord i Ih,ord j JU] at z
  exact z.imp of_decide_eq_true id
section
variable {X:Cx} {pins:List (Addr×Obj)} {σ:St} {H:Hp} {s:Shared} {B:Heap} {a:Addr}
theorem Bu (hM:Mod X.K X.mg B) (LU:∀ b∈lj X.stack,B.get? b=none) {f c:Addr} {fd:FuncData} {p q:Str} {k:Nat} {cvs:List V} {gb:DS->Option D} (F:lF X.prog X.w X.K X.mg B oX k f fd [p] (Gp X.K c q 1 cvs gb)) (hb:Binds X.K fd [p] []) (hr:c8 k X.A.in1.in1)
  {A:List Addr} {us:List Value} {xs:List V} {ds v5 kds:List D} {ts:List KS.T2} {n:Nat} {P:PySem.Fin->Shared->Prop} {E:Value->Shared->Prop}
  (I:Inv X pins σ H s) (bs:∀ b o,B.get? b=some o->s.heap.get? b=some o /\ H b=none) (Xo:B.objs.size<=a) (Zm:X.fS.heap.objs.size<=a) (ho:s.heap.get? a=some (seqObj "list" us.toArray n)) (fa:jU X pins H a) (na:a∉lj X.stack)
  (rv:bw xs us) (al:Ls A H) (hd:cv X.K (wo H A) xs ds) (Kw:cv X.K (wo H A) cvs v5) (qT:H c=some (.code q))
  (hk:∀ (i:Nat) (d:D),ds[i]?=some d->∃ kd,kds[i]?=some kd /\ gb ((d :: v5).map some)=some kd) (hl:kds.length=ds.length) (hK:E5 kds ts) (uQ:us.length < 64) (hu:us.Nodup)
  (h:∀ (s':Shared) (H':Hp) (r:List Nat),Inv X pins σ (upd H' a (.lst (r.map fun i=>xs.getD i .h8))) s'->aH H H'->H' a=none->tM ts r->P (.done (.ret .none)) s'):
  wpAny (model X.prog X.w) X.A.in1.in1 (ksk_tree a (.ref f) false) P E s:=by
 have hz:us.length<=sizeLine:=by rw [sizeLine_eq]; omega
 have hxu:xs.length=us.length:=rv.length
 have MZ:xs.length=ds.length:=hd.len
 have ha:a < s.heap.objs.size:=Heap.lt_size ho
 have sb:=Heap.SameBut.update s.heap a (Obj.mapSeq fun _=>(#[]:Array Value))
 obtain ⟨e1,gQ⟩:∃ e1,(s.heap.update a (Obj.mapSeq fun _=>(#[]:Array Value))).get? a=some (seqObj "list" #[] e1):=⟨_,get?_update_seq ho fun _=>#[]⟩
 have Xp:((s.heap.update a (Obj.mapSeq fun _=>(#[]:Array Value))).push (seqObj "tuple" us.toArray 0)).objs.size=s.heap.objs.size + 1:=by rw [size_push',Heap.size_update]
 unfold ksk_tree
 refine wpAny_bind (listItems_at ho rfl ?_)
 refine wpAny_bind (listUpdate_at ho rfl ?_ (by rw [List.size_toArray]; exact hz) (Nat.zero_le _))
 refine wpAny_bind (seqEpoch_at gQ rfl ?_)
 refine wpAny_bind (wpAny_newTuple ?_ hz)
 refine wpAny_bind (wpAny_newList ?_ (Nat.zero_le _))
 refine wpAny_holding ?_
 have mV:∀ b:Addr,s.heap.objs.size<=b->b∉lj X.stack:=fun b hb z=>by
  obtain ⟨_,o,e,_⟩:=I.stack.mem z
  exact Nat.lt_irrefl _ (Nat.lt_of_lt_of_le (Heap.lt_size e) hb)
 have QH:KI X pins σ B a (s.heap.objs.size + 1) e1 H { s with heap:=((s.heap.update a (Obj.mapSeq fun _=>(#[]:Array Value))).push (seqObj "tuple" us.toArray 0)).push (seqObj "list" #[] 0) } #[] 0:=by
  have I1:=I.fV (t':=s.toks) (h':=s.heap.update a (Obj.mapSeq fun _=>(#[]:Array Value))) (ch:=[a]) (fun b o hb eb=>(sb.2 b (by simpa using hb)).trans eb) (fun b hb=>by rw [show b=a by simpa using hb]; exact fa)
  have I2:=(I1.kept (t':=s.toks) fun b o eb=>Heap.get?_push_of_some (seqObj "tuple" us.toArray 0) eb).kept (t':=s.toks) fun b o eb=>Heap.get?_push_of_some (seqObj "list" #[] 0) eb
  refine ⟨I2,fun b o eb=>?_,Nat.le_of_lt (Nat.lt_of_le_of_lt Xo (Nat.lt_succ_of_lt ha)),fa,I.mG (Nat.le_succ _) (I.cg.fresh (Nat.le_succ _)),na,mV _ (Nat.le_succ _),Heap.get?_push_of_some _ (Heap.get?_push_of_some _ gQ),?_⟩
  ·have iJ:b≠a:=Nat.ne_of_lt (Nat.lt_of_lt_of_le (Heap.lt_size eb) Xo)
   exact ⟨Heap.get?_push_of_some _ (Heap.get?_push_of_some _ ((sb.2 b iJ).trans (bs b o eb).1)),(bs b o eb).2⟩
  ·rw [<- Xp]; exact Heap.get?_push_size _ rfl
 rw [Xp]
 generalize ({ s with heap:=((s.heap.update a (Obj.mapSeq fun _=>(#[]:Array Value))).push (seqObj "tuple" us.toArray 0)).push (seqObj "list" #[] 0) }:Shared)=s3 at QH
 have E4:s.heap.objs.size + 1≠a:=Nat.ne_of_gt (Nat.lt_succ_of_lt ha)
 generalize s.heap.objs.size + 1=kS at QH E4
 show wpAny _ _ (ksk_rest a (.ref f) false us.toArray e1 (.ref kS)) _ _ _
 unfold ksk_rest
 refine wpAny_bind (wpAny_rule ?_)
 rw [List.forIn_toArray]
 refine wpAny_bind (ksk_fold (fun j s'=>∃ H' keys e aQ,KI X pins σ B a kS e1 H' s' keys e /\ aH H H' /\ bw aQ keys.toList /\ cv X.K (wo H' A) aQ (kds.take j)) us 0 s3 ⟨H,#[],0,[],QH,aH.refl _,.nil,.nil⟩ ?step ?done)
 case step=>
  rintro j x s' hx ⟨H',keys,e,aQ,J,sm,rk,KO⟩
  rw [Nat.zero_add] at KO ⊢
  have hj:j < us.length:=(List.getElem?_eq_some_iff.mp hx).1
  obtain ⟨d,Xq⟩:∃ d,ds[j]?=some d:=⟨_,List.getElem?_eq_getElem (by omega)⟩
  obtain ⟨kd,Zn,eg⟩:=hk j d Xq
  obtain ⟨xv,ex,Zo⟩:=hd.get Xq
  obtain ⟨u,eu,rx⟩:=rv.get ex
  rw [hx] at eu; cases eu
  have hlk:keys.size<=us.length:=by
   have h1:aQ.length=keys.size:=rk.length.trans (Array.length_toList ..)
   have h2:aQ.length=min j kds.length:=KO.len.trans (List.length_take ..)
   omega
  have sp:Gp X.K c q 1 cvs gb [xv] H' (fun v H2=>aH H' H2 /\ HD X.K (wo H2 A) v kd) E0:=⟨sm _ _ qT,rfl,A,d :: v5,kd,al.same sm,.cons (Zo.same (cq sm)) (Kw.same (cq sm)),eg,fun v H2 s2 h2=>⟨s2,h2⟩⟩
  refine wpAny_bind (wpAny_attempt ?_)
  refine wpAny_call (codeAny_mono (F.run X.A.in1.in1 X.stack s' H' ⟨[x],[]⟩ [x] [xv] _ E0 hr (J.env hM LU) (hb s' [x] J.inv.qM rfl) (.cons rx .nil) sp) fun r s2 hq=>?_)
  cases r with
  | error e=>exact hq.elim
  | ok fl=>
    cases fl with
    | next=>exact False.elim hq
    | brk=>exact False.elim hq
    | cont=>exact False.elim hq
    | ret u=>
      obtain ⟨v,H2,J2,E1,NM,Zp⟩:=J.call LU hq
      obtain ⟨e',J3⟩:=J2.push E4 u
      refine wpAny_bind (listUpdate_at J2.gk rfl ?_ (by rw [sizeLine_eq]; omega) (Nat.le_trans (Nat.le_of_eq (Array.size_push ..)) (by rw [sizeLine_eq]; omega)))
      refine wpAny_pure ⟨rfl,H2,keys.push u,e',aQ ++ [v],J3,sm.trans NM,by rw [Array.toList_push]; exact rk.append (.cons E1 .nil),?_⟩
      have et:kds.take (j + 1)=kds.take j ++ [kd]:=by rw [List.take_add_one,Zn]; rfl
      rw [et]
      exact (KO.same (cq NM)).app (.cons Zp .nil)
 case done=>
  rintro s' ⟨H',keys,e,aQ,J,sm,rk,KO⟩
  rw [Nat.zero_add,List.take_of_length_le (by omega)] at KO
  have KP:keys.size=us.length:=by
   have h1:aQ.length=keys.size:=rk.length.trans (Array.length_toList ..)
   have h2:aQ.length=kds.length:=KO.len
   omega
  obtain ⟨kd,LR⟩:=ID J.inv KO hK rk
  have htl:=hK.len
  refine wpAny_bind (listItems_at J.gk rfl ?_)
  refine KS.Gn (kd:=kd) J.gk J.ga E4 (fun v hv=>?_) KP uQ hu fun h' out c' kp _ KH fe QI=>?_
  ·obtain ⟨i,hi,ev⟩:=List.getElem_of_mem hv
   have Gh:i < ts.length:=by rw [Array.length_toList] at hi; omega
   exact ⟨_,LR i v _ (by rw [List.getElem?_eq_getElem hi,ev]) (List.getElem?_eq_getElem Gh)⟩
  ·have I4:=J.inv.fV (t':=s'.toks) (h':=h') (ch:=[a,kS]) (fun b o hb eb=>kp b o (fun z=>hb (by simp [z])) (fun z=>hb (by simp [z])) eb) (fun b hb=>by
    rcases List.mem_cons.mp hb with rfl | hb
    ·exact J.fa
    ·rw [show b=kS by simpa using hb]; exact J.fk)
   have Gs:∀ x∈out.toList,x∈(keys.zip us.toArray).toList:=fun x hx=>(Array.perm_iff_toList_perm.mp fe).mem_iff.mp hx
   have E1:=vZ rv out.toList Gs
   refine h _ H' _ (I4.HY J.fa.1 Zm J.fa.2.1 J.fa.2.2.2.2.1 J.fa.2.2.2.2.2 (its:=out.toList.map (·.2)) (n:=c') ?_ E1 ?_) sm J.fa.1 (KN KP (by omega) hu LR fe QI)
   ·show h'.get? a=_
    rw [KH,show out.map (·.2)=(out.toList.map (·.2)).toArray by rw [<- Array.toList_map,Array.toArray_toList]]
   ·rw [List.length_map,List.length_map,Array.length_toList,fe.size_eq,Array.size_zip,KP,List.size_toArray,Nat.min_self]; exact hz
end
theorem Gu {kds:List D} {ts NN:List KS.T2} (h:E5 kds ts) (k:E5 kds NN):ts=NN:=by
 have QJ:∀ {a b:List Int},a.map (PyData.int)=b.map PyData.int->a=b:=fun {a b} e=>List.map_inj_right (f:=PyData.int) (fun x y z=>PyData.int.inj z) |>.mp e
 rcases h with ⟨ns,rfl,rfl⟩ | rfl
 ·rcases k with ⟨ms,e,rfl⟩ | e
  ·rw [QJ e]
  ·cases ns with
   | nil=>cases NN with
     | nil=>rfl
     | cons _ _=>cases e
   | cons _ _=>cases NN with
     | nil=>cases e
     | cons _ _=>simp at e
 ·rcases k with ⟨ms,e,rfl⟩ | e
  ·cases ms with
   | nil=>cases ts with
     | nil=>rfl
     | cons _ _=>cases e
   | cons _ _=>cases ts with
     | nil=>cases e
     | cons _ _=>simp at e
  ·refine List.map_inj_right (f:=fun t:KS.T2=>PyData.tuple [.int t.1,.int t.2]) (fun x y z=>?_) |>.mp e
   simp only [PyData.tuple.injEq,List.cons.injEq,PyData.int.injEq,and_true] at z
   exact Prod.ext z.1 z.2
theorem pw_ext {α:Type} {R:α->α->Prop} (OK:∀ a,¬ R a a) (tr:∀ a b c,R a b->R b c->R a c):∀ {l m:List α},l.Pairwise R->m.Pairwise R->(∀ z,z∈l↔z∈m)->l=m
 | [],[],_,_,_=>rfl
 | [],y :: m,_,_,h=>absurd ((h y).mpr List.mem_cons_self) (by simp)
 | x :: l,[],_,_,h=>absurd ((h x).mp List.mem_cons_self) (by simp)
 | x :: l,y :: m,hl,hm,h=>by
   rw [List.pairwise_cons] at hl hm
   have e:x=y:=by
    rcases List.mem_cons.mp ((h x).mp List.mem_cons_self) with a | a
    ·exact a
    ·rcases List.mem_cons.mp ((h y).mpr List.mem_cons_self) with b | b
     ·exact b.symm
     ·exact absurd (tr _ _ _ (hl.1 y b) (hm.1 x a)) (OK _)
   subst e
   rw [pw_ext OK tr hl.2 hm.2 fun z=>⟨fun hz=>?_,fun hz=>?_⟩]
   ·rcases List.mem_cons.mp ((h z).mp (List.mem_cons_of_mem _ hz)) with a | a
    ·rw [a] at hz; exact absurd (hl.1 x hz) (OK _)
    ·exact a
   ·rcases List.mem_cons.mp ((h z).mpr (List.mem_cons_of_mem _ hz)) with a | a
    ·rw [a] at hz; exact absurd (hm.1 x hz) (OK _)
    ·exact a
theorem tM.one {ts:List KS.T2} {r r':List Nat} (h:tM ts r) (k:tM ts r'):r=r':=by
 refine pw_ext (fun i z=>?_) (fun i j l a b=>?_) h.2 k.2 fun z=>h.1.mem_iff.trans k.1.mem_iff.symm
 ·rcases z with z | ⟨_,z⟩
  ·exact KS.gv _ z
  ·exact Nat.lt_irrefl _ z
 ·rcases a with a | ⟨a,a'⟩
  ·rcases b with b | ⟨b,_⟩
   ·exact .inl (KS.kJ a b)
   ·rw [b] at a; exact .inl a
  ·rcases b with b | ⟨b,b'⟩
   ·rw [<- a] at b; exact .inl b
   ·exact .inr ⟨a.trans b,Nat.lt_trans a' b'⟩
def Bv:List Nat->DS->Option (List D)
 | [],_=>some []
 | i :: ix,δ=>(δ[i]?).bind fun o=>o.bind fun d=>(Bv ix δ).bind fun r=>some (d :: r)
def rj (g:D->Option D):List D->Option (List D)
 | []=>some []
 | d :: ds=>(g d).bind fun k=>(rj g ds).bind fun ks=>some (k :: ks)
def Gv (ds:List D):Prop:=∃ ts,E5 ds ts /\ ts.Nodup
def yp (ds kds:List D):Option (List D):=open Classical in if h:ds.length < 64 /\ Gv ds /\ ∃ r ts,E5 kds ts /\ tM ts r then some (h.2.2.choose.map fun i=>ds.getD i .none) else none
theorem z5 {ds kds:List D} {ts:List KS.T2} {r:List Nat} (h1:ds.length < 64) (h2:Gv ds) (h3:E5 kds ts) (h4:tM ts r):yp ds kds=some (r.map fun i=>ds.getD i .none):=by
 have h:ds.length < 64 /\ Gv ds /\ ∃ r ts,E5 kds ts /\ tM ts r:=⟨h1,h2,r,ts,h3,h4⟩
 unfold yp
 rw [dif_pos h]
 obtain ⟨NN,k1,k2⟩:=h.2.2.choose_spec
 rw [Gu k1 h3] at k2
 rw [k2.one h4]
theorem DC {K:PySem.W.Frag} {O:List Nat} {U A0:List Addr} {σ:St} {δ:DS} {H:Hp} (R:Rel K O U A0 σ δ H):∀ {ix:List Nat} {v5:List D},(∀ i∈ix,i∉O)->Bv ix δ=some v5->∃ cvs,cv K (wo H (U ++ A0)) cvs v5 /\ cvs.length=ix.length /\ ∀ (j i:Nat) (v:V),ix[j]?=some i->cvs[j]?=some v->σ[i]?=some (some v)
 | [],v5,_,h=>by cases h; exact ⟨[],.nil,rfl,fun j i v h=>by simp at h⟩
 | i :: ix,v5,ho,h=>by
   unfold Bv at h
   obtain ⟨o,e1,h⟩:=bind1 h
   obtain ⟨d,e2,h⟩:=bind1 h
   obtain ⟨r,e3,e4⟩:=bind1 h
   cases e4
   subst e2
   obtain ⟨v,ev,hv⟩:=R.fz i d (ho i List.mem_cons_self) e1
   obtain ⟨cvs,h1,h2,h3⟩:=DC R (fun j hj=>ho j (List.mem_cons_of_mem _ hj)) e3
   refine ⟨v :: cvs,.cons hv h1,by simp [h2],fun j i' v' a b=>?_⟩
   cases j with
   | zero=>simp at a b; subst a b; exact ev
   | succ j=>exact h3 j i' v' (by simpa using a) (by simpa using b)
theorem z6 {g:D->Option D}:∀ {ds kds:List D},rj g ds=some kds->kds.length=ds.length /\ ∀ (i:Nat) (d:D),ds[i]?=some d->∃ k,kds[i]?=some k /\ g d=some k
 | [],kds,h=>by cases h; exact ⟨rfl,fun i d e=>by simp at e⟩
 | d :: ds,kds,h=>by
   unfold rj at h
   obtain ⟨k,e1,h⟩:=bind1 h
   obtain ⟨ks,e2,e3⟩:=bind1 h
   cases e3
   obtain ⟨h1,h2⟩:=z6 e2
   refine ⟨by simp [h1],fun i d' e=>?_⟩
   cases i with
   | zero=>simp at e; subst e; exact ⟨k,rfl,e1⟩
   | succ i=>exact h2 i d' (by simpa using e)
theorem KQ {X:Cx} {pins:List (Addr×Obj)} {σ:St} {H:Hp} {s:Shared} {A:List Addr} {ds:List D} {xs:List V} {us:List Value} (I:Inv X pins σ H s) (hd:cv X.K (wo H A) xs ds) (rv:bw xs us) (hn:Gv ds):us.Nodup:=by
 obtain ⟨ts,hk,z4⟩:=hn
 obtain ⟨kd,h⟩:=ID I hd hk rv
 have hl:us.length=ts.length:=by rw [<- rv.length,hd.len,hk.len]
 rw [List.Nodup,List.pairwise_iff_getElem]
 intro i j hi hj i8 e
 have a:=h i _ _ (List.getElem?_eq_getElem hi) (List.getElem?_eq_getElem (by omega))
 have b:=h j _ _ (List.getElem?_eq_getElem hj) (List.getElem?_eq_getElem (by omega))
 rw [e] at a
 have:=(List.getElem?_inj (i:=i) (j:=j) (by omega) z4).mp (by rw [List.getElem?_eq_getElem (by omega),List.getElem?_eq_getElem (by omega),KS.DA a b])
 omega
theorem z7 {K:PySem.W.Frag} {H:Hp} {xs:List V} {ds:List D} (h:cv K H xs ds):∀ {r:List Nat},(∀ i∈r,i < ds.length)->cv K H (r.map fun i=>xs.getD i .h8) (r.map fun i=>ds.getD i .none)
 | [],_=>.nil
 | i :: r,hr=>by
   refine .cons ?_ (z7 h fun j hj=>hr j (List.mem_cons_of_mem _ hj))
   have hi:=hr i List.mem_cons_self
   obtain ⟨x,e,q⟩:=h.get (List.getElem?_eq_getElem hi)
   show HD K H (xs.getD i .h8) (ds.getD i .none)
   rw [List.getD_eq_getElem?_getD,List.getD_eq_getElem?_getD,e,List.getElem?_eq_getElem hi]
   exact q
section
variable {X:Cx} {O:List Nat}
def NO (X:Cx) (v:Value) (xs:List V) (s:Shared):Prop:=∀ (Q:List Value->Shared->Prop) (E:Value->Shared->Prop),(∀ us h' tk,(∀ b o,s.heap.get? b=some o->h'.get? b=some o)->s.heap.objs.size<=h'.objs.size->bw xs us->Q us { s with heap:=h',toks:=tk })->wpAny (model X.prog X.w) X.A.in1 (collect v) Q E s
set_option tactic.hygienic true in
theorem Bw {pins:List (Addr×Obj)} {σ:St} {H:Hp} {s:Shared} {f c:Addr} {fd:FuncData} {p q:Str} {k:Nat} {cvs:List V} {gb:DS->Option D} {v:Value} (F:lF X.prog X.w X.K X.mg (p9 X s H) oX k f fd [p] (Gp X.K c q 1 cvs gb)) (hb:Binds X.K fd [p] []) (hr:c8 k X.A.in1.in1)
  {A:List Addr} {xs:List V} {ds v5 kds:List D} {Q:VK} {E:Value->Shared->Prop} (I:Inv X pins σ H s) (al:Ls A H) (hd:cv X.K (wo H A) xs ds) (Kw:cv X.K (wo H A) cvs v5) (qT:H c=some (.code q)) (KR:NO X v xs s)
  (hk:rj (fun d=>gb ((d :: v5).map some)) ds=some kds) {rs:List D} (hs:yp ds kds=some rs)
  (q':∀ r ys H',aH H H'->H r=none->H' r=some (.lst ys)->cv X.K (wo H' (r :: A)) ys rs->Q (.ref r) H') (hv:∃ l:Addr,v=.ref l):
  wpAny (model X.prog X.w) X.A (call (.builtin "sorted") [v] [(Str.ofString "key",.ref f)]) (EP X pins σ Q) E s:=by
 unfold yp at hs
 split at hs
 ·rename_i hh
  cases hs
  obtain ⟨uQ,QK,hex⟩:=id hh
  obtain ⟨ts,hK,hS⟩:=hh.2.2.choose_spec
  generalize hh.2.2.choose=r0 at hS q'
  obtain ⟨hl,E4⟩:=z6 hk
  obtain ⟨l0,rfl⟩:=hv
  have MZ:xs.length=ds.length:=hd.len
  refine call_function_entry_kw kind_sorted plain_sorted entry_sorted (ksk_s1 _ _) ?_
  unfold Builtin.«sorted»
  refine wpAny_bind (m:=checkCount "sorted" 1 1 _) (wpAny_pure ?_)
  refine wpAny_bind (KR _ _ fun us h' tk kp Kz rv=>?_)
  have Zq:us.length < 64:=by rw [<- rv.length]; omega
  have hz:us.length<=sizeLine:=by rw [sizeLine_eq]; omega
  refine wpAny_bind (wpAny_newList ?_ hz)
  have I1:=I.kept (t':=tk) (h':=h') kp
  have I2:Inv X pins σ H { s with heap:=h'.push (seqObj "list" us.toArray 0),toks:=tk }:=I1.kept (t':=tk) fun b o e=>Heap.get?_push_of_some _ e
  have HL:(h'.push (seqObj "list" us.toArray 0)).get? h'.objs.size=some (seqObj "list" us.toArray 0):=Heap.get?_push_size _ rfl
  show wpAny _ _ _ _ _ { s with heap:=h'.push (seqObj "list" us.toArray 0),toks:=tk }
  refine wpAny_bind (wpAny_holding (wpAny_call_entry_kw slot_list_sort ⟨_,HL,rfl⟩ entry_list_sort ?body (ksk_l1 _ _)))
  case body=>
   show wpAny _ _ (Builtin.«list.sort» ⟨[.ref h'.objs.size],[(Str.ofString "key",.ref f)]⟩) _ _ _
   rw [ksk_t1]
   have mV:h'.objs.size∉lj X.stack:=fun z=>by
    obtain ⟨_,o,e,_⟩:=I1.stack.mem z
    exact Nat.lt_irrefl _ (Heap.lt_size e)
   refine Bu (I1.ok.mod.widen fun _ _ e=>I.wide e) (fun b hb=>PySem.W.hideAll_none _ hb) F hb hr I2 (fun b o e=>?_) ?_ I1.sz HL (I1.mG (Nat.le_refl _) (I1.cg.fresh (Nat.le_refl _))) mV rv al hd Kw qT E4 hl hK Zq (KQ I2 hd rv QK) fun s' H' r J sm hn Bd=>⟨_,rfl,wpAny_pure ⟨_,rfl,.ref h'.objs.size,_,J,rfl,?_⟩⟩
   ·have:=Dp e
    exact ⟨Heap.get?_push_of_some _ (kp b o this.1),this.2⟩
   ·unfold p9; rw [PySem.W.hideAll_size,rM]; exact Kz
   ·rw [Bd.one hS]
    have fR:∀ i∈r0,i < ds.length:=fun i hi=>by
     have:=List.mem_range.mp (hS.1.mem_iff.mp hi)
     rw [<- hK.len,hl] at this
     exact this
    exact pL sm q' h'.objs.size _ hn (z7 (hd.same (cq sm)) fR)
 ·cases hs
end
section
variable {prog:Program} {w:World} {A:Around} {E:Value->Shared->Prop} {s:Shared}
theorem tO {Q:List Value->Shared->Prop} {r:Addr} {a b c:Int} {t u v:Tok} {n:Nat} (hh:A.handled=none) (hr:IsRange s.heap r a b c t u v) (KU:Builtin.Range.small a b c=true) (hn:Builtin.Range.rangeSize a b c=n) (hlen:n<=2 ^ 24)
  (hQ:∀ h' tk acc,(∀ b o,s.heap.get? b=some o->h'.get? b=some o)->s.heap.objs.size<=h'.objs.size->ItemsOf (fun i v=>∃ t,v=.int (a + i * c) t) acc n->Q acc.toList { s with heap:=h',toks:=tk }):wpAny (model prog w) A (collect (.ref r)) Q E s:=by
 unfold collect
 refine wpAny_bind (wpAny_runValue (codeAny_builtin F.entry_proto_collect ?_))
 rw [Around.under_plainId F.plain_proto_collect _]
 show wpAny _ A.in1 (newList [] >>= fun l=>again (.builtin "list.__iadd__" ⟨[l,.ref r],[]⟩)) _ _ s
 refine wpAny_bind (wpAny_newObj_type ?_)
 have key:∀ (R:Result->Shared->Prop),(∀ h' tk rh c',(∀ b o,s.heap.get? b=some o->h'.get? b=some o)->h'.get? s.heap.objs.size=some { cls:=.type "list",dict:=none,data:=.seq rh c',slots:=#[] }->ItemsOf (fun i v=>∃ t,v=.int (a + i * c) t) rh n->R (.ok (.ret (.ref s.heap.objs.size))) { s with heap:=h',toks:=tk })->
   codeAny (model prog w) A (.builtin "list.__iadd__" ⟨[.ref s.heap.objs.size,.ref r],[]⟩) R { s with heap:=s.heap.push { cls:=.type "list",data:=.seq ([]:List Value).toArray } }:=by
  intro R hR
  refine codeAny_builtin F.entry_list_iadd ?_
  rw [Around.under_plainId F.plain_list_iadd _]
  show wpAny _ A.in1 (Builtin.List.listExtendWith (.ref s.heap.objs.size) (.ref r) (.ref s.heap.objs.size)) _ _ _
  exact wpAny_extend_range (R:=R) (s:={ s with heap:=s.heap.push { cls:=.type "list",data:=.seq ([]:List Value).toArray } }) hh (Heap.get?_push_of_some _ hr) KU hn hlen _ _ _ (Heap.get?_push_size _ rfl) fun h' tk rh c' hk Bd lN=>hR h' tk rh c' (fun b o e=>hk b o (Nat.ne_of_lt (Heap.lt_size e)) (Heap.get?_push_of_some _ e)) Bd lN
 refine wpAny_pure ⟨plainId_quiet F.plain_list_iadd _,key _ fun h' tk rh c' hk Bd lN=>?_⟩
 show wpAny _ A (load s.heap.objs.size >>= _) _ _ _
 exact wpAny_bind (wpAny_load Bd (wpAny_pure (hQ h' tk rh hk (Nat.le_of_lt (Heap.lt_size Bd)) lN)))
end
theorem qg:∀ {n:Nat} {k:Int} {l:List Value},l.length=n->(∀ (j:Nat) v,l[j]?=some v->∃ t,v=.int (k + j) t)->bw ((List.range n).map fun i:Nat=>V.int (k + i)) l
 | 0,k,l,hl,_=>by rw [List.length_eq_zero_iff.mp hl]; exact .nil
 | n + 1,k,[],hl,_=>by cases hl
 | n + 1,k,x :: l,hl,h=>by
   rw [List.range_succ_eq_map,List.map_cons,List.map_map]
   refine .cons ?_ ?_
   ·obtain ⟨t,e⟩:=h 0 x rfl
    exact ⟨t,e⟩
   ·have:=qg (n:=n) (k:=k + 1) (l:=l) (by simpa using hl) fun j v e=>by
     obtain ⟨t,q⟩:=h (j + 1) v (by simpa using e)
     exact ⟨t,by rw [q]; congr 1; push_cast; omega⟩
    have e:((fun i:Nat=>V.int (k + i)) ∘ Nat.succ)=fun i:Nat=>V.int (k + 1 + i):=by
     funext i
     show V.int (k + ((i + 1:Nat):Int))=_
     congr 1; push_cast; omega
    rw [e]; exact this
def KW (X:Cx) (arg:Expr) (O:List Nat) (ga:DS->Option (List D)):Prop:=∀ pins s σ H U A0 δ ds,Inv X pins σ H s->Rel X.K O U A0 σ δ H->ga δ=some ds->
 wpAny (model X.prog X.w) X.A (eval arg X.env) (fun u s1=>∃ H1 xs pl,Inv X (pins ++ pl) σ H1 s1 /\ aH H H1 /\ (∃ l:Addr,u=.ref l) /\ cv X.K (wo H1 (U ++ A0)) xs ds /\ ∀ s2 H2,Inv X (pins ++ pl) σ H2 s2->aH H1 H2->NO X u xs s2) X.xe s
def Gw (g:DS->Option D):DS->Option (List D):=fun δ=>(g δ).bind fun d=>match d with
 | .list ds=>some ds
 | _=>none
def Gx (g:DS->Option (List D)):DS->Option (List D):=fun δ=>(g δ).bind fun ds=>match ds with
 | [.int n]=>if 0<=n /\ n<=100000 then some ((List.range n.toNat).map fun i:Nat=>.int (0 + i)) else none
 | _=>none
def nV (ga:DS->Option (List D)) (ix:List Nat) (gb:DS->Option D):DS->Option (List D):=fun δ=>(ga δ).bind fun ds=>(Bv ix δ).bind fun v5=>(rj (fun d=>gb ((d :: v5).map some)) ds).bind fun kds=>yp ds kds
section
variable {X:Cx} {O:List Nat}
set_option tactic.hygienic true in
theorem Bx {e:Expr} {g:DS->Option D} (he:PE X e (jl X.K O g)):KW X e O (Gw g):=by
 intro pins s σ H U A0 δ ds I R eg
 obtain ⟨d,e1,e2⟩:=bind1 eg
 split at e2
 ·rename_i PB
  cases e2
  refine dZ (he pins s σ H (fun v H1=>aH H H1 /\ ia X.K (U ++ A0) H1 v (.list ds)) I ⟨U,A0,δ,_,R,e1,fun v H1 s1 h1=>⟨s1,h1⟩⟩) fun u s1 ⟨v,H1,I1,r1,sm,h1⟩=>?_
  obtain ⟨l,xs,rfl,hl,hx⟩:=h1.list
  cases r1
  refine ⟨H1,xs,[],by rw [List.append_nil]; exact I1,sm,⟨l,rfl⟩,hx,fun s2 H2 I2 NM Q E hQ=>?_⟩
  obtain ⟨its,rv,pl,hz⟩:=I2.list (hl.same NM).sq
  refine collect_list pl.isList ?_ (by simpa using (show its.length<=sizeLine by rw [<- rv.length]; exact hz))
  have hsz:((s2.heap.push (seqObj "list" #[] 0)).update s2.heap.objs.size (Obj.mapSeq (· ++ its.toArray))).objs.size=s2.heap.objs.size + 1:=by rw [Heap.size_update,size_push']
  have:=hQ its ((s2.heap.push (seqObj "list" #[] 0)).update s2.heap.objs.size (Obj.mapSeq (· ++ its.toArray))) s2.toks (fun b o e=>by
   rw [Heap.get?_update_ne _ _ _ _ (Nat.ne_of_lt (Heap.lt_size e))]
   exact Heap.get?_push_of_some _ e) (by rw [hsz]; exact Nat.le_succ _) rv
  simpa using this
 ·cases e2
set_option tactic.hygienic true in
theorem DD {a:Expr} {p2 q2:Pos} {gr:DS->Option (List D)} (m2:X.mg "range"=none) (ha:PA X [a] (AW X.K O gr)) (hc:X.calm=true:=by rfl) (g2:Gl X "range":=by rfl)
  (s2:starEach [a] X.env=(false,eval a X.env) :: starEach [] X.env:=by rfl) (s0:starEach ([]:List Expr) X.env=[]:=by rfl):KW X (.Call (.Name "range" p2) [a] [] q2) O (Gx gr):=by
 intro pins s σ H U A0 δ ds I R eg
 obtain ⟨as,e1,e2⟩:=bind1 eg
 split at e2
 ·rename_i n
  split at e2
  ·rename_i hn
   cases e2
   refine Call_ (iB I g2 m2 boot_range (PyProof.Rows.callWith_type1 (dZ (ha q2 pins s σ H (fun vs H1=>aH H H1 /\ vs=[.int n]) I ⟨U,A0,δ,_,R,e1,fun vs H1 s1 h1=>⟨s1,by
    cases h1 with
    | cons a b=>cases b; cases a; rfl⟩⟩) fun us sA ⟨vs,H1,I1,r1,sm,e⟩=>?_) s2 (by rw [s0]; rfl)))
   subst e
   obtain ⟨x,rfl,t,rfl⟩:=vals1 r1
   refine call_range_1 ?_
   have hr:IsRange (sA.heap.push { cls:=.type "range",data:=.fields #[.int 0 sA.toks,.int n t,.int 1 (sA.toks + 1)] }) sA.heap.objs.size 0 n 1 sA.toks t (sA.toks + 1):=IsRange.new ..
   have I2:Inv X pins σ H1 { sA with heap:=sA.heap.push { cls:=.type "range",data:=.fields #[.int 0 sA.toks,.int n t,.int 1 (sA.toks + 1)] },toks:=sA.toks + 1 + 1 }:=I1.kept (t':=sA.toks + 1 + 1) fun b o e=>Heap.get?_push_of_some _ e
   have I3:=I2.pinned (fp:=[sA.heap.objs.size]) (fun b hb=>by rw [show b=sA.heap.objs.size by simpa using hb]; exact I1.mG (Nat.le_refl _) (I1.cg.fresh (Nat.le_refl _))) (fun b hb=>by
    have eb:b=sA.heap.objs.size:=by simpa using hb
    subst eb
    exact ⟨_,Heap.get?_push_size _ rfl,fun v z=>by cases z⟩)
   refine ⟨H1,(List.range n.toNat).map fun i:Nat=>V.int (0 + i),_,I3,sm,⟨_,rfl⟩,?_,fun s2 H2 J NM Q E hQ=>?_⟩
   ·have:=cv.ints (K:=X.K) (H:=wo H1 (U ++ A0)) ((List.range n.toNat).map fun i:Nat=>(0 + i:Int))
    rw [List.map_map,List.map_map] at this
    exact this
   ·have Nt:IsRange s2.heap sA.heap.objs.size 0 n 1 sA.toks t (sA.toks + 1):=(J.pin _ (List.mem_append_right _ (List.mem_append_right _ (fj (b:=sA.heap.objs.size) (by simp) (Heap.get?_push_size _ rfl))))).1
    refine tO (n:=n.toNat) (J.ok.hd hc) Nt (small_one (by decide) (by decide) (by omega) (by omega)) (by rw [rangeSize_one]; split <;> omega) (by omega) fun h' tk acc kp Kz lN=>hQ _ h' tk kp Kz (qg (by rw [Array.length_toList]; exact lN.1) fun j v e=>?_)
    obtain ⟨t,q⟩:=lN.2 j v (by simpa using e)
    exact ⟨t,by rw [q,Int.mul_one]⟩
  ·cases e2
 ·cases e2
theorem v7 {kk kc:Nat} {c P:Addr} {q pn:Str} {params:Arguments} {arg body:Expr} {scope:Scope} {By kp p1 pos:Pos} {fv:List Str} {ix:List Nat} {ga:DS->Option (List D)} {gb:DS->Option D} (sc:Scope)
  (hm:X.mg "sorted"=none) (hA:KW X arg O ga) (hr:c8 kk X.A) (hk:kc + 3<=kk) (hB:Gf X.mg X.base) (Zr:PySem.W.codeHdIn X.K c P=true) (m:(P,By,q)∈b9) (S:NC [pn] fv scope)
  (j4:∀ (base:Heap) (f c':Addr) (cl:List (Str×Addr)) (A:Around) (outer:List Env) (s:Shared) (H:Hp) (E:XK),c8 kc (A.deeper (PySem.W.envX q scope s.heap.objs.size f (.ref c') cl))->PE (Dl oX X.prog X.w X.K X.mg base ([pn] ++ fv) q scope f (.ref c') cl A outer s H E) body (tE X.K [] gb))
  (hb:∀ (name qual:Str) (cl:List (Str×Addr)) (pm cd xn:Value) (us:List Value),us.length=[pn].length->bindArgs (PySem.W.kla_fn name qual params body scope cl pm cd xn) ⟨us,[]⟩=pure ([pn].zip us))
  (zT:X.env.code=.ref c:=by rfl) (hq:X.env.qual ++ Str.ofString "<lambda>"=q:=by rfl) (xm:ix.map (fun i=>X.N[i]?)=fv.map some:=by rfl) (e0:X.env.scope=sc:=by rfl) (Gq:∀ x∈fv,sc.names.lookup x=some .cell:=by decide +kernel) (mV:∀ y∈scope.names,y.2=.free->sc.names.lookup y.1=some .cell:=by decide +kernel)
  (IT:∀ x,X.fn x=true:=by intro _; rfl) (hd:defaultsOf params X.env=([],[]):=by rfl) (g1:Gl X "sorted":=by rfl) (hO:∀ i∈ix,i∉O:=by decide)
  (he:starEach [arg] X.env=(false,eval arg X.env) :: starEach [] X.env:=by rfl) (s0:starEach ([]:List Expr) X.env=[]:=by rfl):
  PE X (.Call (.Name "sorted" p1) [arg] [⟨some "key",.Lambda params body scope By,kp⟩] pos) (tN X.K O (nV ga ix gb)):=by
 subst e0
 intro pins s σ H Q I ⟨U,A0,δ,rs,R,ed,q'⟩
 unfold nV at ed
 obtain ⟨ds,ea,ed⟩:=bind1 ed
 obtain ⟨v5,ec,ed⟩:=bind1 ed
 obtain ⟨kds,ek,es⟩:=bind1 ed
 refine wpAny_Call_Name_kw (iB I g1 hm sf (callWith_kw (kws:=[⟨some "key",.Lambda params body scope By,kp⟩]) ?_ (by rw [he]; rfl) (by rw [he,s0]; rfl) rfl rfl))
 rw [he,s0]
 show wpAny _ _ (spliced ((false,eval arg X.env) :: backTo pos [])) _ _ s
 refine Calls.spliced_cons (dZ (hA pins s σ H U A0 δ ds I R ea) fun u s1 ⟨H1,xs,pl,I1,sm,⟨l,el⟩,hxs,KR⟩=>Calls.spliced_nil ?_)
 have R1:=R.same sm
 refine kws_cons ?_
 have hP:H1 P=some (.lam By q):=R1.al.2.2 P By q m
 obtain ⟨ps0,NA,_⟩:=(show cy X.prog X.w H1 s1.heap P (.lam By q) from I1.cg P _ hP)
 obtain ⟨bm,ob,b1,b2,b3,b4,b5,b6⟩:=hB
 have Ky:s1.heap.Ns mainGlobals X.mg:=Ns.widen I1.bk I1.ok.mod.glob
 have Xr:∀ {a:Addr},(∀ o es ep,s1.heap.get? a=some o->o.data≠.dict es ep)->a≠mainGlobals:=fun {a} h z=>by
  subst z
  obtain ⟨o,es,ep,e,d,_⟩:=Ky
  exact h o es ep e d
 have OL:=I1.bk _ _ b3
 refine Kx I1 hd (fun y hy hf=>I1.ok.has _ (.inl (mV y hy hf))) zT (PySem.W.codeHd_of_K I1.qM Zr) hP hq ⟨bm,ob,b1,b2,Xr fun o es ep e z=>?_,fun z=>?_,OL,b4,b5,b6⟩ (Ne.symm (Xr fun o es ep e z=>?_)) fun cl f c' xn s2 H2 h1 h2 I2 NP hc hf Zs Cj=>kws_nil ?_
 ·rw [OL] at e; cases e; rw [b6] at z; cases z
 ·subst z
  rw [NA] at OL; cases OL
  cases b6
 ·rw [NA] at e; cases e; cases z
 ·have R2:=R1.same NP
  obtain ⟨cvs,Kw,nO,Zt⟩:=DC R2 hO ec
  have F:=KL (k:=kc) (gb:=gb) (cvs:=cvs) I2.j3 Cj hf Zs h1 h2 IT S xm Gq Zt nO fun base=>j4 base f c' cl
  subst el
  refine Bw F (Binds.all (hb _ _ _ _ _ _)) (hr.mono hk).in1.in1 I2.j3 R2.al (hxs.same (cq NP)) Kw hc (KR s2 H2 I2 NP) ek es (fun r ys H' a b c d=>q' r ys H' ((sm.trans NP).trans a) ?_ c d) ⟨l,rfl⟩
  cases e:H r with
  | none=>rfl
  | some o=>rw [(sm.trans NP) _ _ e] at b; cases b
end
theorem v8 {P:Program} {w:World} {K:PySem.W.Frag} {mg:Str->Option Value} {base:Heap} {x:Str} {st:Stmt} {N ps:List Str} {k:Nat} {c:Addr} (O:List Nat) (g:DS->Option Res) (F:ND K mg x st ps c) (S:aI N ps (aq st))
  (body:∀ (f:Addr) (A:Around) (outer:List Env) (s:Shared) (H:Hp) (E:XK),c8 k (A.deeper (envOfC x (aq st) s.heap.objs.size f (.ref c)))->mE (pB oX P w K mg base N x (aq st) f (.ref c) A outer s H E).EU (eI st) (tS K O true g))
  (hO:∀ i∈O,ps.length<=i:=by decide) {n m:Nat} (hN:N.length=n:=by rfl) (hP:ps.length=m:=by rfl):Dn P w K mg base (k + 1) x ps (oz K m (jR n g)):=by
 subst hN hP
 obtain ⟨f,fd,F,hc,m,b⟩:=F
 have kp:=F.kp
 obtain ⟨oc,od,kV,doc,pm,an,cR,ct,Cc,rfl,lk,qT⟩:=F.ex
 cases (show cR=.ref c from hc)
 refine ⟨f,_,HQ lk qT S (fun vs H Q E h=>h.1) fun A outer s H vs Q E hr h=>⟨_,(body f A outer s H E hr).EU,?_⟩,m,kp,b⟩
 obtain ⟨hn,A',ds,d,al,hd,e,q⟩:=h
 obtain ⟨r,e1,e2⟩:=bind1 e
 refine ⟨H,[],A',_,r,Rel.start al hd (fun i hi=>by have:=hO i hi; rw [<- hd.len,hn]; exact this),Fx.start al,e1,?_⟩
 cases r with
 | rt d'=>
   intro v H' h
   unfold oN at h
   rw [if_pos rfl] at h
   obtain ⟨r,ob,rfl,a,b,c,f⟩:=h
   cases f with
   | lst f=>cases e2; exact q r _ H' a b c f
   | qO _ _=>cases e2
 | nx δ=>cases e2
 | bk _=>cases e2
 | ct _=>cases e2
end L2
namespace Q1
structure lz (n d t b:Int):Prop where
 pos:1<=d
 DE:Int.gcd n d=1
 eq:n * b=t * d
theorem o6 {a b:Int}:Int.gcd a b=1↔Nat.Coprime a.natAbs b.natAbs:=Iff.rfl
theorem fW {a b:Int} (h:Int.gcd a b=1):Int.gcd b a=1:=by rw [Int.gcd_comm]; exact h
theorem mZ {a b c:Int} (h1:Int.gcd a c=1) (h2:Int.gcd b c=1):Int.gcd (a * b) c=1:=by
 rw [o6] at *
 rw [Int.natAbs_mul]
 exact Nat.Coprime.mul_left h1 h2
theorem jg {a b c:Int} (h1:Int.gcd a b=1) (h2:Int.gcd a c=1):Int.gcd a (b * c)=1:=fW (mZ (fW h1) (fW h2))
theorem o7 {a b c:Int} (h:Int.gcd b c=1) (d:a ∣ b):Int.gcd a c=1:=by
 rw [o6] at *
 exact Nat.Coprime.coprime_dvd_left (Int.natAbs_dvd_natAbs.mpr d) h
theorem m7 {a b c:Int} (h:Int.gcd c b=1) (d:a ∣ b):Int.gcd c a=1:=fW (o7 (fW h) d)
theorem jv {a b c:Int} (h:Int.gcd a b=1) (d:a ∣ b * c):a ∣ c:=by
 rw [o6] at h
 rw [<- Int.natAbs_dvd_natAbs] at *
 rw [Int.natAbs_mul] at d
 exact Nat.Coprime.dvd_of_dvd_mul_left h d
theorem lz.o8 {n d t b:Int} (h:lz n d t b):n ∣ t:=jv h.DE ⟨b,by rw [h.eq]; exact Int.mul_comm _ _⟩
theorem lz.o9 {n d t b:Int} (h:lz n d t b):d ∣ b:=jv (fW h.DE) ⟨t,by rw [h.eq]; exact Int.mul_comm _ _⟩
theorem bJ {a b:Int} (h:a ∣ b) (hb:b≠0):a.natAbs<=b.natAbs:=Nat.le_of_dvd (by omega) (Int.natAbs_dvd_natAbs.mpr h)
theorem lz.yq {n d t b:Int} (h:lz n d t b) (hb:b≠0):n.natAbs<=t.natAbs:=by
 by_cases ht:t=0
 ·have e:=h.eq
  rw [ht,Int.zero_mul] at e
  rcases Int.mul_eq_zero.mp e with z | z
  ·rw [z,ht]; exact Nat.le_refl _
  ·exact absurd z hb
 ·exact bJ h.o8 ht
theorem lz.bot_le {n d t b:Int} (h:lz n d t b) (hb:b≠0):d.natAbs<=b.natAbs:=bJ h.o9 hb
theorem lz.uniq {n d n' d' t b:Int} (h:lz n d t b) (h':lz n' d' t b) (hb:b≠0):n=n' /\ d=d':=by
 have e:n * d'=n' * d:=by
  have e1:=h.eq
  have e2:=h'.eq
  have:b * (n * d')=b * (n' * d):=by grind
  exact Int.eq_of_mul_eq_mul_left hb this
 have hd:d=d':=by
  have a1:d ∣ d':=jv (fW h.DE) ⟨n',by rw [e]; exact Int.mul_comm _ _⟩
  have a2:d' ∣ d:=jv (fW h'.DE) ⟨n,by rw [<- e]; exact Int.mul_comm _ _⟩
  have p:=h.pos
  have p':=h'.pos
  have b1:=bJ a1 (by omega)
  have b2:=bJ a2 (by omega)
  omega
 subst hd
 have p:=h.pos
 exact ⟨Int.eq_of_mul_eq_mul_right (by omega) e,rfl⟩
theorem sC {t b:Int} (hb:b≠0):∃ t' b':Int,0 < (Int.gcd t b:Int) /\ t=t' * (Int.gcd t b:Int) /\ b=b' * (Int.gcd t b:Int) /\ Int.gcd t' b'=1:=by
 have hp:0 < Int.gcd t b:=Int.gcd_pos_of_ne_zero_right _ hb
 refine ⟨t / (Int.gcd t b:Int),b / (Int.gcd t b:Int),by omega,(Int.ediv_mul_cancel (Int.gcd_dvd_left _ _)).symm,(Int.ediv_mul_cancel (Int.gcd_dvd_right _ _)).symm,Int.gcd_ediv_gcd_ediv_gcd hp⟩
def dv (t b:Int):Int:=if b < 0 then -(Int.gcd t b:Int) else (Int.gcd t b:Int)
theorem NQ {t b:Int} (hb:b≠0):dv t b≠0:=by
 have hp:0 < Int.gcd t b:=Int.gcd_pos_of_ne_zero_right _ hb
 unfold dv; split <;> omega
theorem Gy {t b:Int} (hb:b≠0):lz (t.fdiv (dv t b)) (b.fdiv (dv t b)) t b:=by
 obtain ⟨t',b',hp,et,eb,c⟩:=sC (t:=t) hb
 unfold dv
 generalize (Int.gcd t b:Int)=g at *
 subst et eb
 by_cases hs:b' * g < 0
 ·rw [if_pos hs]
  have e1:(t' * g).fdiv (-g)= -t':=by
   have:t' * g=(-t') * (-g):=by grind
   rw [this]; exact Int.mul_fdiv_cancel _ (by omega)
  have e2:(b' * g).fdiv (-g)= -b':=by
   have:b' * g=(-b') * (-g):=by grind
   rw [this]; exact Int.mul_fdiv_cancel _ (by omega)
  rw [e1,e2]
  have vQ:b' < 0:=by
   rcases Int.lt_trichotomy b' 0 with z | z | z
   ·exact z
   ·subst z; simp at hb
   ·have:=Int.mul_pos z hp; omega
  refine ⟨by omega,?_,by grind⟩
  rw [Int.neg_gcd,Int.gcd_neg]; exact c
 ·rw [if_neg hs]
  rw [Int.mul_fdiv_cancel _ (by omega),Int.mul_fdiv_cancel _ (by omega)]
  have vQ:0 < b':=by
   rcases Int.lt_trichotomy b' 0 with z | z | z
   ·exact absurd (Int.mul_neg_of_neg_of_pos z hp) hs
   ·subst z; simp at hb
   ·exact z
  exact ⟨by omega,c,by grind⟩
theorem DF {n1 d1 n2 d2 l0 l1 r0 r1:Int} (h1:Int.gcd n1 d1=1) (h2:Int.gcd n2 d2=1) (hl:lz l0 l1 n1 d2) (hr:lz r0 r1 n2 d1):lz (l0 * r0) (l1 * r1) (n1 * n2) (d1 * d2):=by
 have p1:=hl.pos
 have p2:=hr.pos
 have e1:=hl.eq
 have e2:=hr.eq
 refine ⟨?_,mZ (jg hl.DE ?_) (jg ?_ hr.DE),?_⟩
 ·have:=Int.mul_pos (show 0 < l1 by omega) (show 0 < r1 by omega); omega
 ·exact o7 (m7 h1 hr.o9) hl.o8
 ·exact o7 (m7 h2 hl.o9) hr.o8
 ·grind
theorem oF {a b c p:Int} (h:Int.gcd (a * b) p=1):Int.gcd (a * b + c * p) p=1:=by
 rw [Int.gcd_add_mul_right_left]
 exact h
theorem Gz {n1 d1 n2 d2 g p1 p2 r0 r1:Int} (h1:Int.gcd n1 d1=1) (h2:Int.gcd n2 d2=1) (C1:1<=d1) (hd2:1<=d2) (hg:0 < g) (e1:d1=p1 * g) (e2:d2=p2 * g) (hc:Int.gcd p1 p2=1) (hr:lz r0 r1 (n1 * p2 + n2 * p1) g):
  lz r0 (p1 * p2 * r1) (n1 * d2 + n2 * d1) (d1 * d2):=by
 have p:=hr.pos
 have q1:0 < p1:=by
  rcases Int.lt_trichotomy p1 0 with z | z | z
  ·have:=Int.mul_neg_of_neg_of_pos z hg; omega
  ·subst z; simp at e1; omega
  ·exact z
 have q2:0 < p2:=by
  rcases Int.lt_trichotomy p2 0 with z | z | z
  ·have:=Int.mul_neg_of_neg_of_pos z hg; omega
  ·subst z; simp at e2; omega
  ·exact z
 have c1:Int.gcd n1 p1=1:=m7 h1 ⟨g,e1⟩
 have c2:Int.gcd n2 p2=1:=m7 h2 ⟨g,e2⟩
 have t1:Int.gcd (n1 * p2 + n2 * p1) p1=1:=oF (mZ c1 (fW hc))
 have t2:Int.gcd (n1 * p2 + n2 * p1) p2=1:=by rw [Int.add_comm]; exact oF (mZ c2 hc)
 refine ⟨?_,?_,?_⟩
 ·have a:=Int.mul_pos q1 q2
  have b:=Int.mul_pos a (show 0 < r1 by omega)
  omega
 ·exact jg (o7 (jg t1 t2) hr.o8) hr.DE
 ·have e:=hr.eq
  subst e1 e2
  grind
theorem DG {a b:Int}:Int.gcd b (a % b)=Int.gcd a b:=by
 have e:a=a % b + (a / b) * b:=by have:=Int.emod_add_ediv_mul a b; omega
 have h:Int.gcd (a % b + (a / b) * b) b=Int.gcd (a % b) b:=Int.gcd_add_mul_right_left ..
 rw [<- e] at h
 rw [h,Int.gcd_comm]
end Q1
namespace Q1
def aX (t b:Int):Int×Int:=(t.fdiv (dv t b),b.fdiv (dv t b))
theorem bI {t b:Int} (hb:b≠0):lz (aX t b).1 (aX t b).2 t b:=Gy hb
theorem lz.qm {n d t b:Int} (h:lz n d t b) (hb:b≠0):(n,d)=aX t b:=by
 obtain ⟨a,c⟩:=h.uniq (bI hb) hb
 exact Prod.ext a c
abbrev Qz:Int×Int:=(0,1)
theorem DH {t b:Int} (hb:b≠0):aX t b=Qz↔t=0:=by
 constructor
 ·intro h
  have e:=(bI (t:=t) hb).eq
  rw [h] at e
  simpa using e.symm
 ·rintro rfl
  exact ((⟨by decide,by decide,by simp⟩:lz 0 1 0 b).qm hb).symm
def tP (a b:Int×Int):Int×Int:=aX (a.1 * b.2 + b.1 * a.2) (a.2 * b.2)
def rm (a b:Int×Int):Int×Int:=aX (a.1 * b.1) (a.2 * b.2)
def OM (l:List (Int×Int)) (k:Nat):Int×Int:=l.getD k Qz
def LV (q:Int×Int):Prop:=1<=q.2 /\ Int.gcd q.1 q.2=1
theorem DI {t b:Int} (hb:b≠0):LV (aX t b):=⟨(bI hb).pos,(bI hb).DE⟩
theorem v9 {q:Int×Int} (h:LV q):aX q.1 q.2=q:=((⟨h.1,h.2,rfl⟩:lz q.1 q.2 q.1 q.2).qm (by have:=h.1; omega)).symm
theorem m8 {t b t' b':Int} (hb:b≠0) (vQ:b'≠0) (h:t * b'=t' * b):aX t b=aX t' b':=by
 have q:=bI (t:=t) hb
 refine (lz.qm (n:=(aX t b).1) (d:=(aX t b).2) ⟨q.pos,q.DE,?_⟩ vQ)
 have e:=q.eq
 refine Int.eq_of_mul_eq_mul_left hb ?_
 grind
end Q1
namespace Q1
end Q1
namespace Q1
def tab (n:Nat) (T:Nat->Int):List Int:=(List.range n).map T
def g7:List (Int×Int)->Nat->Nat
 | [],B=>B
 | q :: l,B=>g7 l (Nat.lcm B q.2.natAbs)
theorem wa:∀ (l:List (Int×Int)) (B:Nat),B ∣ g7 l B /\ ∀ q∈l,q.2 ∣ (g7 l B:Int)
 | [],B=>⟨Nat.dvd_refl B,fun q hq=>by simp at hq⟩
 | a :: l,B=>by
   obtain ⟨h1,h2⟩:=wa l (Nat.lcm B a.2.natAbs)
   refine ⟨Nat.dvd_trans (Nat.dvd_lcm_left _ _) h1,fun q hq=>?_⟩
   rcases List.mem_cons.mp hq with z | z
   ·subst z
    have:q.2.natAbs ∣ g7 l (Nat.lcm B q.2.natAbs):=Nat.dvd_trans (Nat.dvd_lcm_right _ _) h1
    rw [<- Int.natAbs_dvd]
    exact Int.natCast_dvd_natCast.mpr this
   ·exact h2 q z
theorem qh:∀ (l:List (Int×Int)) (B:Nat),0 < B->(∀ q∈l,q.2≠0)->0 < g7 l B
 | [],_,h,_=>h
 | a :: l,B,h,hq=>qh l _ (Nat.lcm_pos h (by have:=hq a List.mem_cons_self; omega)) fun q z=>hq q (List.mem_cons_of_mem _ z)
theorem DJ (l m:List (Int×Int)) (B:Nat):g7 (l ++ m) B=g7 m (g7 l B):=by
 induction l generalizing B with
 | nil=>rfl
 | cons a l ih=>rw [List.cons_append,g7,ih,g7]
end Q1
namespace Q1
def jT (b g:Nat) (s:Int×Int):Int×Int:=(s.1 ^ b * (s.2 - s.1) ^ g,s.2 ^ b * s.2 ^ g)
structure Bz (s:Int×Int):Prop where
 low:LV s
 pos:0 < s.1
 ON:s.1 < s.2
theorem Bz.rest {s:Int×Int} (h:Bz s):Int.gcd (s.2 - s.1) s.2=1:=by
 have:=h.low.2
 rw [show s.2 - s.1= -s.1 + 1 * s.2 by omega,Int.gcd_add_mul_right_left,Int.neg_gcd]
 exact this
theorem m9 {x y:Int} (h:Int.gcd x y=1) (m n:Nat):Int.gcd (x ^ m) (y ^ n)=1:=by
 rw [o6] at *
 rw [Int.natAbs_pow,Int.natAbs_pow]
 exact Nat.Coprime.pow m n h
theorem pd {s:Int×Int} (h:Bz s) (b g:Nat):LV (jT b g s):=by
 have h1:0 < s.2:=by have:=h.low.1; omega
 refine ⟨?_,mZ (jg (m9 h.low.2 b b) (m9 h.low.2 b g)) (jg (m9 h.rest g b) (m9 h.rest g g))⟩
 have a:=(Int.pow_pos h1:0 < s.2 ^ b)
 have c:=(Int.pow_pos h1:0 < s.2 ^ g)
 have:=Int.mul_pos a c
 show 1<=s.2 ^ b * s.2 ^ g
 omega
theorem z8 {s:Int×Int} (h:Bz s) (b g:Nat):0 < (jT b g s).1:=Int.mul_pos (Int.pow_pos h.pos) (Int.pow_pos (by have:=h.ON; omega))
theorem qk {t c:Int} (h1:0 < t) (h2:t < c):Bz (aX t c):=by
 have ok:=bI (t:=t) (show c≠0 by omega)
 have p:=ok.pos
 have e:=ok.eq
 refine ⟨DI (by omega),?_,?_⟩
 ·have:0 < t * (aX t c).2:=Int.mul_pos h1 (by omega)
  rw [<- e] at this
  exact Int.pos_of_mul_pos_left this (by omega)
 ·have:t * (aX t c).2 < c * (aX t c).2:=Int.mul_lt_mul_of_pos_right h2 (by omega)
  rw [<- e,Int.mul_comm c] at this
  exact Int.lt_of_mul_lt_mul_right this (by omega)
theorem DL {s:Int×Int} (h:Bz s):tP (1,1) (-s.1,s.2)=(s.2 - s.1,s.2):=by
 unfold tP
 have h1:0 < s.2:=by have:=h.low.1; omega
 refine ((⟨by show 1<=s.2; omega,h.rest,?_⟩:lz (s.2 - s.1) s.2 (1 * s.2 + -s.1 * 1) (1 * s.2)).qm (by omega)).symm
 grind
theorem yr {t c:Int} (h1:0 < t) (h2:t < c) (b g:Nat):(jT b g (aX t c)).1 * (c ^ b * c ^ g)=(t ^ b * (c - t) ^ g) * (jT b g (aX t c)).2:=by
 have e:=(bI (t:=t) (show c≠0 by omega)).eq
 unfold jT
 generalize aX t c=s at *
 have e1:s.1 ^ b * c ^ b=t ^ b * s.2 ^ b:=by rw [<- Int.mul_pow,e,Int.mul_pow]
 have e2:(s.2 - s.1) ^ g * c ^ g=(c - t) ^ g * s.2 ^ g:=by
  rw [<- Int.mul_pow,<- Int.mul_pow]
  congr 1
  grind
 show s.1 ^ b * (s.2 - s.1) ^ g * (c ^ b * c ^ g)=t ^ b * (c - t) ^ g * (s.2 ^ b * s.2 ^ g)
 generalize s.1 ^ b=x1 at *
 generalize (s.2 - s.1) ^ g=x2 at *
 generalize c ^ b=x3 at *
 generalize c ^ g=x4 at *
 generalize t ^ b=x5 at *
 generalize (c - t) ^ g=x6 at *
 generalize s.2 ^ b=x7 at *
 generalize s.2 ^ g=x8 at *
 have:x1 * x2 * (x3 * x4)=(x1 * x3) * (x2 * x4):=by grind
 rw [this,e1,e2]
 grind
def rat (b g:Nat) (lo hi:Int×Int):Int×Int:=rm (jT b g hi) ((jT b g lo).2,(jT b g lo).1)
theorem tQ {l h c:Int} (h1:0 < l) (h2:l < c) (h3:0 < h) (h4:h < c) (b g:Nat):lz (rat b g (aX l c) (aX h c)).1 (rat b g (aX l c) (aX h c)).2 (h ^ b * (c - h) ^ g) (l ^ b * (c - l) ^ g):=by
 have s1:=qk h1 h2
 have s2:=qk h3 h4
 have p1:=z8 s1 b g
 have p2:=(pd s2 b g).1
 have p3:=(pd s1 b g).1
 have e1:=yr h1 h2 b g
 have e2:=yr h3 h4 b g
 have ok:=bI (t:=(jT b g (aX h c)).1 * (jT b g (aX l c)).2) (b:=(jT b g (aX h c)).2 * (jT b g (aX l c)).1) (Int.mul_ne_zero (by omega) (by omega))
 unfold rat rm
 refine ⟨ok.pos,ok.DE,?_⟩
 have e:=ok.eq
 have hc:0 < c ^ b * c ^ g:=Int.mul_pos (Int.pow_pos (by omega)) (Int.pow_pos (by omega))
 generalize aX ((jT b g (aX h c)).1 * (jT b g (aX l c)).2) ((jT b g (aX h c)).2 * (jT b g (aX l c)).1)=f at *
 generalize (jT b g (aX h c)).1=N' at *
 generalize (jT b g (aX h c)).2=D' at *
 generalize (jT b g (aX l c)).1=N at *
 generalize (jT b g (aX l c)).2=D at *
 generalize c ^ b * c ^ g=C at *
 generalize h ^ b * (c - h) ^ g=T at *
 generalize l ^ b * (c - l) ^ g=B at *
 have iJ:C * (D' * D)≠0:=Int.mul_ne_zero (by omega) (Int.mul_ne_zero (by omega) (by omega))
 refine Int.eq_of_mul_eq_mul_left iJ ?_
 have k1:C * (D' * D) * (f.1 * B)=C * (f.1 * (D' * N) * C):=by
  have:C * (D' * D) * (f.1 * B)=C * (D' * f.1 * (B * D)):=by grind
  rw [this,<- e1]; grind
 rw [k1,e]
 have:C * (N' * D * f.2 * C)=C * ((N' * C) * (D * f.2)):=by grind
 rw [this,e2]; grind
end Q1
namespace Q1
theorem GA {a b c d:Int} (hb:b≠0) (hd:d≠0):rm (aX a b) (aX c d)=aX (a * c) (b * d):=by
 have e1:=(bI (t:=a) hb).eq
 have e2:=(bI (t:=c) hd).eq
 have p1:=(bI (t:=a) hb).pos
 have p2:=(bI (t:=c) hd).pos
 unfold rm
 generalize aX a b=x at *
 generalize aX c d=y at *
 refine m8 (Int.mul_ne_zero (by omega) (by omega)) (Int.mul_ne_zero hb hd) ?_
 have:x.1 * y.1 * (b * d)=(x.1 * b) * (y.1 * d):=by grind
 rw [this,e1,e2]; grind
theorem GB {a b c d:Int} (hb:b≠0) (hd:d≠0):tP (aX a b) (aX c d)=aX (a * d + c * b) (b * d):=by
 have e1:=(bI (t:=a) hb).eq
 have e2:=(bI (t:=c) hd).eq
 have p1:=(bI (t:=a) hb).pos
 have p2:=(bI (t:=c) hd).pos
 unfold tP
 generalize aX a b=x at *
 generalize aX c d=y at *
 refine m8 (Int.mul_ne_zero (by omega) (by omega)) (Int.mul_ne_zero hb hd) ?_
 have:(x.1 * y.2 + y.1 * x.2) * (b * d)=(x.1 * b) * (y.2 * d) + (y.1 * d) * (x.2 * b):=by grind
 rw [this,e1,e2]; grind
end Q1
namespace aF
open PySem L2 Q1
abbrev bt (x:Int):Nat:=Builtin.Int.intBits x
theorem dq {m:Nat} {x:Int} (h:x.natAbs < 2 ^ m):bt x<=m:=intBits_le_iff.mpr h
theorem NR {m:Nat} {x:Int} (h:bt x<=m):x.natAbs < 2 ^ m:=intBits_le_iff.mp h
theorem g8 {m n:Nat} {x y:Int} (h1:bt x<=m) (h2:bt y<=n):bt (x * y)<=m + n:=intBits_mul_le h1 h2
theorem KY {m:Nat} {x:Int} (h:bt x<=m):bt (-x)<=m:=intBits_neg_le h
theorem eY {m:Nat} {x y:Int} (h:x.natAbs<=y.natAbs) (hy:bt y<=m):bt x<=m:=intBits_le_of_natAbs h hy
theorem bD {m n:Nat} {x:Int} (h:bt x<=m) (h2:m<=n):bt x<=n:=Nat.le_trans h h2
theorem yt {m:Nat} {x:Int} (h:bt x<=m) (k:Nat):bt (x ^ k)<=m * k + 1:=by
 have:=intBits_pow_le h k
 omega
theorem cx {m n:Nat} {x y:Int} (h1:bt x<=m) (h2:bt y<=n) (h:m + n<=134217728:=by omega):IntMulOk x y:=IntMulOk.of_le h1 h2 h
theorem tR (i:Int):(if i < 0 then -i else i)=(i.natAbs:Nat):=by split <;> omega
theorem cB {a b:Int} (h:IntMulOk a b):bC (.int a) (.int b)=some (.int (a * b)):=pN h
theorem gm {a b:Int} (h:0 < b):fb (.int a) (.int b)=some (.int (a % b)):=by
 rw [<- Int.fmod_eq_emod_of_nonneg _ (Int.le_of_lt h)]
 exact pN (C:=fun _ j=>j≠0) (by omega)
theorem oG {a b:Int} (h:0 < b) (hb:bt b<=9000):g4 (.int a) (.int b)=some (.int (a / b)):=by
 rw [<- Int.fdiv_eq_ediv_of_nonneg _ (Int.le_of_lt h)]
 exact pN (C:=zx) ⟨by omega,rZ hb⟩
theorem tU {a b:Int} (h:b≠0) (hb:bt b<=9000):g4 (.int a) (.int b)=some (.int (a.fdiv b)):=pN (C:=zx) ⟨h,rZ hb⟩
theorem IE {a:Int} {k:Nat} (h:a.natAbs < 2 ^ 64) (hk:k<=1000000):vk (.int a) (.int k)=some (.int (a ^ k)):=by
 have:=pN (C:=Jg) (g:=fun i j=>.int (i ^ j.toNat)) (a:=a) (b:=k) ⟨by omega,by omega,h⟩
 simpa using this
theorem tV {α:Type} {x:α} {xs:List α}:qN (x :: xs) 0=some x:=h9 (j:=0) rfl
theorem wb {α:Type} {x y:α} {xs:List α}:qN (x :: y :: xs) 1=some y:=h9 (j:=1) rfl
def d8 {β:Type} (x:Option β) (P:β->Prop):Prop:=∃ d,x=some d /\ P d
theorem bb {β:Type} {x:Option β} {d:β} (h:d8 x fun y=>y=d):x=some d:=by
 obtain ⟨y,e,rfl⟩:=h; exact e
theorem d8.mk {β:Type} {x:Option β} {P:β->Prop} {d:β} (e:x=some d) (h:P d):d8 x P:=⟨d,e,h⟩
theorem jw {a b:DS->Option Res} {δ δ':DS} (h:a δ=some (.nx δ')):aD a b δ=b δ':=by
 unfold aD; rw [h]; rfl
theorem GC {a b:DS->Option Res} {δ:DS} {d:D} (h:a δ=some (.rt d)):aD a b δ=some (.rt d):=by
 unfold aD; rw [h]; rfl
theorem yu {c:DS->Option Bool} {b:DS->Option Res} (W:Nat->DS->Prop) (Z:DS->Prop) (m:Nat) {δ:DS} (h:W m δ)
  (hs:∀ m δ,W m δ->(c δ=some false /\ Z δ) \/ (c δ=some true /\ ∃ δ' m',b δ=some (.nx δ') /\ m' < m /\ W m' δ')):∃ δ',g6 c b δ=some (.nx δ') /\ Z δ':=by
 obtain ⟨q,h1,δ',rfl,h2⟩:=AZ W (fun _ q=>∃ δ',q=.nx δ' /\ Z δ') m δ h (fun m δ hW=>by
  rcases hs m δ hW with ⟨a,z⟩ | ⟨a,δ',m',e,l,w⟩
  ·exact .inl ⟨a,δ,rfl,z⟩
  ·exact .inr ⟨a,.inl ⟨δ',m',.inl e,l,w,fun q hq=>hq⟩⟩)
 exact ⟨δ',h1,h2⟩
theorem wc {t:D->DS->Option DS} {b:DS->Option Res} (W:Nat->DS->Prop):∀ (ds:List D) (k:Nat) {δ:DS},W k δ->(∀ i d δ,ds[i]?=some d->W (k + i) δ->∃ dW δ',t d δ=some dW /\ b dW=some (.nx δ') /\ W (k + i + 1) δ')->
  ∃ δ',jV t b ds δ=some (.nx δ') /\ W (k + ds.length) δ'
 | [],k,δ,h,_=>⟨δ,rfl,h⟩
 | d :: ds,k,δ,h,hs=>by
   obtain ⟨dW,δ',e1,e2,h'⟩:=hs 0 d δ rfl h
   obtain ⟨OP,e3,h2⟩:=wc W ds (k + 1) h' (fun i d δ e w=>by
    have:=hs (i + 1) d δ (by simpa using e) (by rw [show k + (i + 1)=k + 1 + i by omega]; exact w)
    rw [show k + (i + 1) + 1=k + 1 + i + 1 by omega] at this
    exact this)
   refine ⟨OP,?_,by rw [List.length_cons,show k + (ds.length + 1)=k + 1 + ds.length by omega]; exact h2⟩
   rw [jV,e1,Option.bind_some,e2,Option.bind_some]
   exact e3
theorem tW {α:Type} {t:D->DS->Option DS} {b:DS->Option Res} (enc:α->D) (W:Nat->DS->Prop) (xs:List α) {δ:DS} (h:W 0 δ)
  (hs:∀ i x δ,xs[i]?=some x->W i δ->∃ dW δ',t (enc x) δ=some dW /\ b dW=some (.nx δ') /\ W (i + 1) δ'):∃ δ',jV t b (xs.map enc) δ=some (.nx δ') /\ W xs.length δ':=by
 obtain ⟨δ',e,w⟩:=wc (t:=t) (b:=b) W (xs.map enc) 0 h (fun i d δ e w=>by
  rw [List.getElem?_map] at e
  cases ex:xs[i]? with
  | none=>rw [ex] at e; cases e
  | some x=>
    rw [ex] at e; cases e
    rw [Nat.zero_add] at w ⊢
    exact hs i x δ ex w)
 rw [Nat.zero_add,List.length_map] at w
 exact ⟨δ',e,w⟩
theorem DM {t:D->DS->Option DS} {b:DS->Option Res} {lo:Int} {n:Nat} (W:Nat->DS->Prop) {δ:DS} (h:W 0 δ)
  (hs:∀ i δ,i < n->W i δ->∃ dW δ',t (.int (lo + i)) δ=some dW /\ b dW=some (.nx δ') /\ W (i + 1) δ'):∃ δ',jV t b (fT lo n) δ=some (.nx δ') /\ W n δ':=by
 obtain ⟨δ',e,w⟩:=tW (t:=t) (b:=b) (fun k:Nat=>PyData.int (lo + k)) W (List.range n) h (fun i x δ e w=>by
  have hi:=(List.getElem?_eq_some_iff.mp e).1
  rw [List.length_range] at hi
  rw [List.getElem?_range hi] at e
  cases e
  exact hs i δ hi w)
 rw [List.length_range] at w
 exact ⟨δ',e,w⟩
theorem nW {c:DS->Option Bool} {b rest:DS->Option Res} {β:Type} {f:Res->Option β} {R:β->Prop} {δ:DS} (W:Nat->DS->Prop) (Z:DS->Prop) (m:Nat) (h:W m δ)
  (hs:∀ m δ,W m δ->(c δ=some false /\ Z δ) \/ (c δ=some true /\ ∃ δ' m',b δ=some (.nx δ') /\ m' < m /\ W m' δ')) (k:∀ δ',Z δ'->d8 ((rest δ').bind f) R):d8 ((aD (g6 c b) rest δ).bind f) R:=by
 obtain ⟨δ',h1,h2⟩:=yu W Z m h hs
 rw [jw h1]
 exact k δ' h2
theorem gN {α:Type} {t:D->DS->Option DS} {gi:DS->Option (List D)} {b rest:DS->Option Res} {β:Type} {f:Res->Option β} {R:β->Prop} {δ:DS} (enc:α->D) (xs:List α) (W:Nat->DS->Prop) (hi:gi δ=some (xs.map enc)) (h:W 0 δ)
  (hs:∀ i x δ,xs[i]?=some x->W i δ->∃ dW δ',t (enc x) δ=some dW /\ b dW=some (.nx δ') /\ W (i + 1) δ') (k:∀ δ',W xs.length δ'->d8 ((rest δ').bind f) R):d8 ((aD (d3 gi t b) rest δ).bind f) R:=by
 obtain ⟨δ',h1,h2⟩:=tW (t:=t) (b:=b) enc W xs h hs
 rw [jw (δ':=δ') (by unfold d3; rw [hi]; exact h1)]
 exact k δ' h2
theorem jh {t:D->DS->Option DS} {gi:DS->Option (List D)} {b rest:DS->Option Res} {β:Type} {f:Res->Option β} {R:β->Prop} {δ:DS} (lo:Int) (n:Nat) (W:Nat->DS->Prop) (hi:gi δ=some (fT lo n)) (h:W 0 δ)
  (hs:∀ i δ,i < n->W i δ->∃ dW δ',t (.int (lo + i)) δ=some dW /\ b dW=some (.nx δ') /\ W (i + 1) δ') (k:∀ δ',W n δ'->d8 ((rest δ').bind f) R):d8 ((aD (d3 gi t b) rest δ).bind f) R:=by
 obtain ⟨δ',h1,h2⟩:=DM (t:=t) (b:=b) W h hs
 rw [jw (δ':=δ') (by unfold d3; rw [hi]; exact h1)]
 exact k δ' h2
theorem aM {a rest:DS->Option Res} {β:Type} {f:Res->Option β} {R:β->Prop} {δ:DS} (δ':DS) (h:a δ=some (.nx δ')) (k:d8 ((rest δ').bind f) R):d8 ((aD a rest δ).bind f) R:=by
 rw [jw h]; exact k
theorem nX {c:DS->Option Bool} {a rest:DS->Option Res} {β:Type} {f:Res->Option β} {R:β->Prop} {δ:DS} (h:c δ=some false) (k:d8 ((rest δ).bind f) R):d8 ((aD (jq c a cE) rest δ).bind f) R:=by
 rw [jw (δ':=δ) (by unfold jq; rw [h]; rfl)]; exact k
theorem z9 {c:DS->Option Bool} {a b rest:DS->Option Res} {β:Type} {f:Res->Option β} {R:β->Prop} {δ:DS} (x:Bool) (h:c δ=some x) (k1:x=true->d8 ((aD a rest δ).bind f) R) (k2:x=false->d8 ((aD b rest δ).bind f) R):d8 ((aD (jq c a b) rest δ).bind f) R:=by
 have e:jq c a b δ=if x=true then a δ else b δ:=by unfold jq; rw [h]; rfl
 cases x with
 | true=>rw [if_pos rfl] at e; have:=k1 rfl; unfold aD at this ⊢; rw [e]; exact this
 | false=>rw [if_neg Bool.false_ne_true] at e; have:=k2 rfl; unfold aD at this ⊢; rw [e]; exact this
theorem GD {g:DS->Option D} {rest:DS->Option Res} {β:Type} {f:Res->Option β} {R:β->Prop} {δ:DS} (d:D) (h:g δ=some d) (k:d8 (f (.rt d)) R):d8 ((aD (bH g) rest δ).bind f) R:=by
 rw [GC (d:=d) (by unfold bH; rw [h]; rfl)]; exact k
theorem ret {g:DS->Option D} {β:Type} {f:Res->Option β} {R:β->Prop} {δ:DS} (d:D) (h:g δ=some d) (k:d8 (f (.rt d)) R):d8 ((bH g δ).bind f) R:=by
 unfold bH; rw [h]; exact k
theorem bV {a b:DS->Option Res} {δ:DS} {r:Option Res} (δ':DS) (h:a δ=some (.nx δ')) (k:b δ'=r):aD a b δ=r:=(jw h).trans k
theorem sD {c:DS->Option Bool} {a:DS->Option Res} {δ:DS} (h:c δ=some false):jq c a cE δ=some (.nx δ):=by unfold jq; rw [h]; rfl
theorem DN {rest:DS->Option Res} {δ:DS}:aD cE rest δ=rest δ:=rfl
theorem seq_assoc {a b c:DS->Option Res} {δ:DS}:aD (aD a b) c δ=aD a (aD b c) δ:=by
 unfold aD
 cases a δ with
 | none=>rfl
 | some r=>cases r <;> rfl
theorem Aa {α β:Type} {f:D->Option D} (enc:α->D) (jx:β->D) (h:α->β):∀ (l:List α),(∀ a∈l,f (enc a)=some (jx (h a)))->CM f (l.map enc)=some ((l.map h).map jx)
 | [],_=>rfl
 | a :: l,hf=>by
   rw [List.map_cons,CM,hf a List.mem_cons_self,Option.bind_some,Aa enc jx h l fun b hb=>hf b (List.mem_cons_of_mem _ hb)]
   rfl
theorem kK {α β:Type} (enc:α->D) (jx:β->D) (h:α->β) {gi:DS->Option (List D)} {ix:List Nat} {ge:DS->Option D} {δ:DS} (l:List α) (hi:gi δ=some (l.map enc)) (hn:l.length<=100000)
  (hf:∀ a∈l,ge (some (enc a) :: df ix δ)=some (jx (h a))):fU gi ix ge δ=some ((l.map h).map jx):=by
 unfold fU
 rw [hi,Option.bind_some,if_pos (by rw [List.length_map]; exact hn)]
 exact Aa enc jx h l hf
theorem Ab (i:Int):xO "int" [.int i]=some (.bool true):=rfl
theorem Ac (i:Int):xO "bool" [.int i]=some (.bool false):=rfl
theorem Ad (l:List D):xO "tuple" [.tuple l]=some (.bool true):=rfl
theorem GF (l:List D):xO "list" [.list l]=some (.bool true):=rfl
theorem GH (i:Bool):xO "bool" [.bool i]=some (.bool true):=rfl
theorem GI (i:Str):xO "str" [.str i]=some (.bool true):=rfl
theorem yw (a b:Int):zF (.int a) (.int b)=some (.bool (decide (a=b))):=rfl
theorem nY (a b:Int):CD (.int a) (.int b)=some (.bool (!decide (a=b))):=rfl
theorem KZ {a b:D} {c:Bool} (h:zF a b=some (.bool c)):CD a b=some (.bool (!c)):=by unfold CD; rw [h]; rfl
theorem iw {g:DS->Option (List D)} {δ:DS} {n:Nat} (h:g δ=some [.int (n:Nat)]) (hn:n<=100000):eK g δ=some (fT 0 n):=by
 unfold eK
 rw [h,Option.bind_some]
 show (if -(2 ^ 62)<=((n:Nat):Int) /\ ((n:Nat):Int) < 2 ^ 62 then some (fT 0 ((n:Nat):Int).toNat) else none)=_
 rw [Int.toNat_natCast,if_pos ⟨by omega,by omega⟩]
theorem BA {g:DS->Option (List D)} {δ:DS} {a b:Int} (h:g δ=some [.int a,.int b]) (h1: -100000<=a) (h2:a<=100000) (h3: -100000<=b) (h4:b<=100000):oY g δ=some (fT a (b - a).toNat):=by
 unfold oY
 rw [h,Option.bind_some]
 show (if -(2 ^ 62)<=a /\ a < 2 ^ 62 /\ -(2 ^ 62)<=b /\ b < 2 ^ 62 then some (fT a (b - a).toNat) else none)=_
 rw [if_pos ⟨by omega,by omega,by omega,by omega⟩]
theorem call_of {G:List D->Option D} {n:Nat} {g:DS->Option (List D)} {δ:DS} {ds:List D} {r:Option D} (h:g δ=some ds) (hn:ds.length=n) (hG:G ds=r):aK G n g δ=r:=by
 unfold aK; rw [h,Option.bind_some,if_pos hn]; exact hG
theorem gX {G:List D->Option (List D)} {n:Nat} {g:DS->Option (List D)} {δ:DS} {ds:List D} {r:Option (List D)} (h:g δ=some ds) (hn:ds.length=n) (hG:G ds=r):dU G n g δ=r:=by
 unfold dU; rw [h,Option.bind_some,if_pos hn]; exact hG
theorem bP {g:DS->Option (List D)} {δ:DS} {l:List D} (h:g δ=some l):bQ g δ=some (.list l):=by unfold bQ; rw [h]; rfl
theorem cons_of {a:DS->Option D} {r:DS->Option (List D)} {δ:DS} {x:D} {xs:List D} (h:a δ=some x) (h2:r δ=some xs):aa a r δ=some (x :: xs):=by unfold aa; rw [h,h2]; rfl
theorem aP {i:Nat} {g:DS->Option D} {δ:DS} {d:D} (h:g δ=some d):aS i g δ=some (.nx (δ.set i (some d))):=by unfold aS; rw [h]; rfl
theorem yx (l:List D):e9 [.list l]=some (.int l.length):=rfl
theorem DO (l:List D):e9 [.tuple l]=some (.int l.length):=rfl
theorem K3 (l:List iX):e9 [dP l]=some (.int (l.length:Nat)):=by unfold dP; rw [yx,List.length_map]
theorem GJ (a b:Int):CG (.int a) (.int b)=some (.int (a + b)):=rfl
theorem IF (l:List D) (i:Int):bu (.list l) (.int i)=qN l i:=rfl
theorem Ae (l:List D) (i:Int):bu (.tuple l) (.int i)=qN l i:=rfl
theorem NS (l:List iX) (i:Int):bu (dP l) (.int i)=qN (l.map dF) i:=rfl
theorem fm (q:iX):bu (dF q) (.int 0)=some (.int q.1):=rfl
theorem dX (q:iX):bu (dF q) (.int 1)=some (.int q.2):=rfl
theorem GK (a b:List D):sX (.list a) (.list b)=if a.length + b.length<=100000 then some (a ++ b) else none:=rfl
theorem GL (a b:List D):CG (.list a) (.list b)=if a.length + b.length<=100000 then some (.list (a ++ b)) else none:=rfl
theorem we {a b:DS->Option Bool} {δ:DS} {r:Option Bool} (h1:a δ=some false) (h2:b δ=r):zI a b δ=r:=by unfold zI; rw [h1]; exact h2
theorem nZ {a b:DS->Option Bool} {δ:DS} {r:Option Bool} (h1:a δ=some true) (h2:b δ=r):mQ a b δ=r:=by unfold mQ; rw [h1]; exact h2
theorem kL {a:DS->Option Bool} {δ:DS} {x:Bool} (h:a δ=some x):k8 a δ=some (!x):=by unfold k8; rw [h]; rfl
theorem dG {g:DS->Option D} {δ:DS} {b:Bool} (h:g δ=some (.bool b)):gB g δ=some b:=by unfold gB; rw [h]; rfl
theorem fg {g:DS->Option D} {δ:DS} {b:Bool} (h:g δ=some (.bool b)):ja g δ=some b:=by unfold ja; rw [h]; rfl
theorem ak {f:D->D->Option D} {a b:DS->Option D} {δ:DS} {x y:D} {r:Option D} (h1:a δ=some x) (h2:b δ=some y) (h3:f x y=r):g2 f a b δ=r:=by unfold g2; rw [h1,h2]; exact h3
abbrev DP:DS->Option Res:=(aD (aS 2 (g2 dB (g1 vD (ae 0)) (gC (.int (240)))))
  (aD (aS 3 (aW (aa (g2 JY (ae 0) (ae 2)) (aa (gC (.int (1))) (aa (gC (.int (0))) ai)))))
  (aD (aS 4 (aW (aa (g2 JY (ae 1) (ae 2)) (aa (gC (.int (0))) (aa (gC (.int (1))) ai)))))
  (aD (g6 (gB (g2 CD (g2 JY (g2 bu (ae 4) (gC (.int (0)))) (gC (.int (120)))) (gC (.int (0))))) (aD (aS 5 (g2 g4 (g2 bu (ae 3) (gC (.int (0)))) (g2 bu (ae 4) (gC (.int (0))))))
  (aD (aS 6 (aW (aa (g2 dB (g2 bu (ae 3) (gC (.int (0)))) (g2 bC (ae 5) (g2 bu (ae 4) (gC (.int (0)))))) (aa (g2 dB (g2 bu (ae 3) (gC (.int (1)))) (g2 bC (ae 5) (g2 bu (ae 4) (gC (.int (1)))))) (aa (g2 dB (g2 bu (ae 3) (gC (.int (2)))) (g2 bC (ae 5) (g2 bu (ae 4) (gC (.int (2)))))) ai)))))
  (aD (aS 3 (ae 4))
  (aS 4 (ae 6))))))
  (bH (aW (aa (fI mS (aa (g2 bp (g2 bC (g2 bu (ae 3) (gC (.int (1)))) (ae 0)) (g2 bC (g2 bu (ae 3) (gC (.int (2)))) (ae 1))) ai)) (aa (fI mS (aa (g2 bp (g2 bC (g2 bu (ae 4) (gC (.int (1)))) (ae 0)) (g2 bC (g2 bu (ae 4) (gC (.int (2)))) (ae 1))) ai)) ai))))))))
def yy:List D->Option D:=d6 7 DP
abbrev fq:DS->Option Res:=(aD (aS 0 (fI mS (aa (ae 0) ai)))
  (aD (aS 1 (fI mS (aa (ae 1) ai)))
  (aD (g6 (gB (g2 CD (ae 1) (gC (.int (0))))) (aD (aS 2 (g2 fb (ae 0) (ae 1)))
  (aD (aS 0 (ae 1))
  (aD (aS 1 (ae 2))
  (jq (gB (g2 vn (g1 vD (ae 1)) (gC (.int (4000))))) (aD (aS 3 (aK yy 2 (aa (ae 0) (aa (ae 1) ai))))
  (aD (aS 0 (g2 bu (ae 3) (gC (.int (0)))))
  (aS 1 (g2 bu (ae 3) (gC (.int (1))))))) cE)))))
  (bH (ae 0)))))
def bg:List D->Option D:=d6 4 fq
theorem lU (a0 a1:D):bg [a0,a1]=(fq [some a0,some a1,none,none]).bind dD:=rfl
abbrev yz:DS->Option Res:=(aD (jq (gB (g2 zF (ae 1) (gC (.int (0))))) (fun _=>none) cE)
  (aD (aS 2 (aK bg 2 (aa (ae 0) (aa (ae 1) ai))))
  (aD (jq (gB (g2 zE (ae 1) (gC (.int (0))))) (aS 2 (g1 xK (ae 2))) cE)
  (bH (aW (aa (g2 g4 (ae 0) (ae 2)) (aa (g2 g4 (ae 1) (ae 2)) ai)))))))
def iY:List D->Option D:=d6 3 yz
theorem K4 (a0 a1:D):iY [a0,a1]=(yz [some a0,some a1,none]).bind dD:=rfl
abbrev yA:DS->Option Res:=(aD (aS 2 (aK bg 2 (aa (g2 bu (ae 0) (gC (.int (1)))) (aa (g2 bu (ae 1) (gC (.int (1)))) ai))))
  (aD (aS 3 (g2 g4 (g2 bu (ae 0) (gC (.int (1)))) (ae 2)))
  (aD (aS 4 (g2 g4 (g2 bu (ae 1) (gC (.int (1)))) (ae 2)))
  (aD (aS 5 (aK iY 2 (aa (g2 bp (g2 bC (g2 bu (ae 0) (gC (.int (0)))) (ae 4)) (g2 bC (g2 bu (ae 1) (gC (.int (0)))) (ae 3))) (aa (ae 2) ai))))
  (bH (aW (aa (g2 bu (ae 5) (gC (.int (0)))) (aa (g2 bC (g2 bC (ae 3) (ae 4)) (g2 bu (ae 5) (gC (.int (1))))) ai))))))))
def jy:List D->Option D:=d6 6 yA
theorem K5 (a0 a1:D):jy [a0,a1]=(yA [some a0,some a1,none,none,none,none]).bind dD:=rfl
abbrev tX:DS->Option Res:=(bH (aK jy 2 (aa (ae 0) (aa (aW (aa (g1 xK (g2 bu (ae 1) (gC (.int (0))))) (aa (g2 bu (ae 1) (gC (.int (1)))) ai))) ai))))
def nc:List D->Option D:=d6 2 tX
theorem GN (a0 a1:D):nc [a0,a1]=(tX [some a0,some a1]).bind dD:=rfl
abbrev tY:DS->Option Res:=(aD (aS 2 (aK iY 2 (aa (g2 bu (ae 0) (gC (.int (0)))) (aa (g2 bu (ae 1) (gC (.int (1)))) ai))))
  (aD (aS 3 (aK iY 2 (aa (g2 bu (ae 1) (gC (.int (0)))) (aa (g2 bu (ae 0) (gC (.int (1)))) ai))))
  (bH (aW (aa (g2 bC (g2 bu (ae 2) (gC (.int (0)))) (g2 bu (ae 3) (gC (.int (0))))) (aa (g2 bC (g2 bu (ae 2) (gC (.int (1)))) (g2 bu (ae 3) (gC (.int (1))))) ai))))))
def iP:List D->Option D:=d6 4 tY
theorem GO (a0 a1:D):iP [a0,a1]=(tY [some a0,some a1,none,none]).bind dD:=rfl
abbrev yB:DS->Option Res:=(bH (aK iP 2 (aa (ae 0) (aa (aK iY 2 (aa (g2 bu (ae 1) (gC (.int (1)))) (aa (g2 bu (ae 1) (gC (.int (0)))) ai))) ai))))
def ql:List D->Option D:=d6 2 yB
theorem K6 (a0 a1:D):ql [a0,a1]=(yB [some a0,some a1]).bind dD:=rfl
abbrev tZ:DS->Option Res:=(aD (aS 2 (gC (.int (1))))
  (aD (aS 3 (gC (.int (1))))
  (aD (d3 (eK (aa (ae 1) ai)) (aL 4)
   (aD (aS 2 (g2 bC (ae 2) (g2 bu (ae 0) (gC (.int (0))))))
  (aS 3 (g2 bC (ae 3) (g2 bu (ae 0) (gC (.int (1))))))))
  (bH (aW (aa (ae 2) (aa (ae 3) ai)))))))
def kM:List D->Option D:=d6 5 tZ
theorem GP (a0 a1:D):kM [a0,a1]=(tZ [some a0,some a1,none,none,none]).bind dD:=rfl
abbrev t4:DS->Option Res:=(bH (g2 zE (g2 bC (g2 bu (ae 0) (gC (.int (0)))) (g2 bu (ae 1) (gC (.int (1))))) (g2 bC (g2 bu (ae 1) (gC (.int (0)))) (g2 bu (ae 0) (gC (.int (1)))))))
def fh:List D->Option D:=d6 2 t4
theorem GQ (a0 a1:D):fh [a0,a1]=(t4 [some a0,some a1]).bind dD:=rfl
abbrev n4:DS->Option Res:=(aD (aS 2 (g2 bp (g2 bu (ae 1) (gC (.int (0)))) (g2 bu (ae 1) (gC (.int (1))))))
  (bH (oy (nK MU zE (gC (.int (0))) (ae 2) (fI e9 (aa (ae 0) ai))) (g2 J0 (g2 bu (ae 1) (gC (.int (0)))) (g2 bu (ae 0) (ae 2))))))
def iy:List D->Option D:=d6 3 n4
theorem BC (a0 a1:D):iy [a0,a1]=(n4 [some a0,some a1,none]).bind dD:=rfl
abbrev qo:DS->Option Res:=(bH (bQ (Kj (bQ (EY sX (bQ (vv lJ (aa (ae 0) ai))) (bQ (fU (a9 (ae 0)) [] (g2 bp (ae 0) (gC (.int (1)))))))))))
def iF:List D->Option (List D):=jR 1 qo
theorem DQ (a0:D):iF [a0]=(qo [some a0]).bind jQ:=rfl
abbrev n5:DS->Option Res:=(aD (jP 1 (iK (aa (aW (aa (gC (.int (0))) (aa (gC (.int (0))) ai))) ai)))
  (aD (d3 (Dh (ae 0)) (gT 2 (bN (aL 2) (bN (aL 3) hZ)))
   (A5 1 (fU (a9 (bQ (dU iF 1 (aa (ae 3) ai)))) [2] (aW (aa (ae 0) (aa (g2 dB (ae 1) (ae 0)) ai))))))
  (bH (ae 1))))
def gy:List D->Option (List D):=jR 4 n5
theorem BD (a0:D):gy [a0]=(n5 [some a0,none,none,none]).bind jQ:=rfl
abbrev yC:DS->Option Res:=(bH (bQ (cz (a9 (bQ (dU gy 1 (aa (ae 0) ai)))) 1 [0] (aL 0) (k8 (ja (aK iy 2 (aa (ae 1) (aa (ae 0) ai))))) (ae 0))))
def qp:List D->Option (List D):=jR 1 yC
theorem K7 (a0:D):qp [a0]=(yC [some a0]).bind jQ:=rfl
abbrev lV:DS->Option Res:=(aD (jP 1 (iK ai))
  (aD (d3 (yk (ae 0)) (gT 2 (bN (aL 2) (bN (aL 3) hZ)))
   (A5 1 (fU (a9 (ae 3)) [2] (aW (aa (ae 0) (aa (g2 dB (ae 1) (ae 0)) ai))))))
  (bH (ae 1))))
def gz:List D->Option (List D):=jR 4 lV
theorem yD (a0:D):gz [a0]=(lV [some a0,none,none,none]).bind jQ:=rfl
abbrev t5:DS->Option Res:=(aD (jq (gB (g2 zF (ae 1) (gC (.str "b")))) (bH (aW (aa (g2 bp (g2 bu (ae 0) (gC (.int (0)))) (gC (.int (1)))) (aa (g2 bu (ae 0) (gC (.int (1)))) ai)))) cE)
  (bH (aW (aa (g2 bu (ae 0) (gC (.int (0)))) (aa (g2 bp (g2 bu (ae 0) (gC (.int (1)))) (gC (.int (1)))) ai)))))
def fX:List D->Option D:=d6 2 t5
theorem Af (a0 a1:D):fX [a0,a1]=(t5 [some a0,some a1]).bind dD:=rfl
abbrev g9:DS->Option Res:=(aD (aS 1 (gC (.int (1))))
  (aD (d3 (a9 (ae 0)) (aL 2)
   (aS 1 (g2 bC (g2 g4 (ae 1) (aK bg 2 (aa (ae 1) (aa (g2 bu (ae 2) (gC (.int (1)))) ai)))) (g2 bu (ae 2) (gC (.int (1)))))))
  (bH (ae 1))))
def dH:List D->Option D:=d6 3 g9
theorem oQ (a0:D):dH [a0]=(g9 [some a0,none,none]).bind dD:=rfl
abbrev kg:DS->Option Res:=(bH (bQ (fU (a9 (ae 0)) [1] (g2 bC (g2 bu (ae 0) (gC (.int (0)))) (g2 g4 (ae 1) (g2 bu (ae 0) (gC (.int (1)))))))))
def gY:List D->Option (List D):=jR 2 kg
theorem wg (a0 a1:D):gY [a0,a1]=(kg [some a0,some a1]).bind jQ:=rfl
abbrev kh:DS->Option Res:=(aD (Dd 2 (ym (ae 1) (gC (.int (1)))))
  (aD (d3 (a9 (bQ (dU gz 1 (aa (ae 0) ai)))) (aL 3)
   (aD (aS 4 (lS (ae 2) (ae 3) (gC (.int (0)))))
  (d3 (a9 (aW (aa (aK fX 2 (aa (ae 3) (aa (gC (.str "b")) ai))) (aa (aK fX 2 (aa (ae 3) (aa (gC (.str "g")) ai))) ai)))) (aL 5)
   (sr 2 (ae 5) (g2 bp (lS (ae 2) (ae 5) (gC (.int (0)))) (ae 4))))))
  (bH (ae 2))))
def fK:List D->Option D:=d6 6 kh
theorem wj (a0 a1:D):fK [a0,a1]=(kh [some a0,some a1,none,none,none,none]).bind dD:=rfl
abbrev fY:DS->Option Res:=(jq (k8 (mQ (ja (aK fh 2 (aa (gC (.tuple [(.int (0)),(.int (1))])) (aa (ae 0) ai)))) (mQ (ja (aK fh 2 (aa (ae 0) (aa (ae 1) ai)))) (ja (aK fh 2 (aa (ae 1) (aa (gC (.tuple [(.int (1)),(.int (1))])) ai))))))) (fun _=>none) cE)
def cF:List D->Option D:=d6 2 fY
theorem qr (a0 a1:D):cF [a0,a1]=(fY [some a0,some a1]).bind dD:=rfl
abbrev t6:DS->Option Res:=(aD (aS 2 (aK kM 2 (aa (ae 1) (aa (g2 bu (ae 0) (gC (.int (0)))) ai))))
  (aD (aS 3 (aK kM 2 (aa (aK nc 2 (aa (gC (.tuple [(.int (1)),(.int (1))])) (aa (ae 1) ai))) (aa (g2 bu (ae 0) (gC (.int (1)))) ai))))
  (bH (aW (aa (g2 bC (g2 bu (ae 2) (gC (.int (0)))) (g2 bu (ae 3) (gC (.int (0))))) (aa (g2 bC (g2 bu (ae 2) (gC (.int (1)))) (g2 bu (ae 3) (gC (.int (1))))) ai))))))
def ij:List D->Option D:=d6 4 t6
theorem GR (a0 a1:D):ij [a0,a1]=(t6 [some a0,some a1,none,none]).bind dD:=rfl
abbrev t7:DS->Option Res:=(aD (pQ (aK cF 2 (aa (ae 1) (aa (ae 2) ai))))
  (bH (aK ql 2 (aa (aK ij 2 (aa (ae 0) (aa (ae 2) ai))) (aa (aK ij 2 (aa (ae 0) (aa (ae 1) ai))) ai)))))
def ng:List D->Option D:=d6 3 t7
theorem GS (a0 a1 a2:D):ng [a0,a1,a2]=(t7 [some a0,some a1,some a2]).bind dD:=rfl
abbrev fu:DS->Option Res:=(aD (aS 1 (bQ (fU (a9 (ae 0)) [] (g2 bu (ae 0) (gC (.int (1)))))))
  (aD (aS 2 (bQ (dU gY 2 (aa (ae 1) (aa (aK dH 1 (aa (ae 1) ai)) ai)))))
  (aD (aS 3 (bQ (nV (Gx (aa (fI e9 (aa (ae 0) ai)) ai)) [2] (g1 xK (g2 bu (ae 1) (ae 0))))))
  (bH (bQ (fU (a9 (ae 3)) [0] (g2 bu (ae 1) (ae 0))))))))
def cG:List D->Option (List D):=jR 4 fu
theorem lW (a0:D):cG [a0]=(fu [some a0,none,none,none]).bind jQ:=rfl
abbrev ik:DS->Option Res:=(jq (zI (ja (aK fh 2 (aa (ae 0) (aa (gC (.tuple [(.int (0)),(.int (1))])) ai)))) (ja (aK fh 2 (aa (gC (.tuple [(.int (1)),(.int (1))])) (aa (ae 0) ai))))) (fun _=>none) cE)
def fZ:List D->Option D:=d6 1 ik
theorem t8 (a0:D):fZ [a0]=(ik [some a0]).bind dD:=rfl
abbrev lX:DS->Option Res:=(bH (bQ (nV (Gw (ae 0)) [] (aW (aa (g2 bp (g2 bu (ae 0) (gC (.int (0)))) (g2 bu (ae 0) (gC (.int (1))))) (aa (g2 bu (ae 0) (gC (.int (0)))) ai))))))
def fw:List D->Option (List D):=jR 1 lX
theorem yE (a0:D):fw [a0]=(lX [some a0]).bind jQ:=rfl
abbrev t9:DS->Option Res:=(aD (jP 2 (iK ai))
  (aD (aS 3 (gC (.tuple [(.int (0)),(.int (1))])))
  (aD (aS 4 (gC (.tuple [(.int (0)),(.int (1))])))
  (aD (d3 (a9 (ae 0)) (gT 4 (bN (aL 5) (bN (aL 6) (bN (aL 7) (bN (aL 8) hZ)))))
   (aD (aS 9 (aK jy 2 (aa (ae 3) (aa (ae 7) ai))))
  (aD (jq (ja (aK fh 2 (aa (ae 1) (aa (ae 9) ai)))) (bH (aW (aa (bQ (iD fw 1 (aa (ae 2) ai))) (aa (ae 6) (aa (ae 3) (aa (ae 4) ai)))))) cE)
  (aD (pS 2 (ae 5))
  (aD (aS 3 (ae 9))
  (aS 4 (aK jy 2 (aa (ae 4) (aa (ae 8) ai)))))))))
  (bH (aW (aa (bQ (iD fw 1 (aa (ae 2) ai))) (aa (gC (.tuple [(.int (0)),(.int (1))])) (aa (ae 3) (aa (ae 4) ai))))))))))
def kN:List D->Option D:=d6 10 t9
theorem GU (a0 a1:D):kN [a0,a1]=(t9 [some a0,some a1,none,none,none,none,none,none,none,none]).bind dD:=rfl
abbrev hJ:DS->Option Res:=(aD (pQ (aK cF 2 (aa (ae 1) (aa (ae 2) ai))))
  (aD (pQ (aK fZ 1 (aa (ae 3) ai)))
  (aD (aS 4 (aK fK 2 (aa (ae 0) (aa (aW (aa (gC (.int (0))) (aa (gC (.int (0))) ai))) ai))))
  (aD (jP 5 (iK ai))
  (aD (d3 (a9 (bQ (dU qp 1 (aa (ae 0) ai)))) (aL 6)
   (aD (aS 7 (aW (aa (p5 (ae 4) (ae 6)) (aa (gC (.int (1))) ai))))
  (pS 5 (aW (aa (ae 6) (aa (aK ng 3 (aa (ae 6) (aa (ae 1) (aa (ae 2) ai)))) (aa (aK iP 2 (aa (ae 7) (aa (aK ij 2 (aa (ae 6) (aa (ae 1) ai))) ai))) (aa (aK iP 2 (aa (ae 7) (aa (aK ij 2 (aa (ae 6) (aa (ae 2) ai))) ai))) ai))))))))
  (bH (aK kN 2 (aa (bQ (iD cG 1 (aa (ae 5) ai))) (aa (ae 3) ai)))))))))
def dJ:List D->Option D:=d6 8 hJ
theorem oR (a0 a1 a2 a3:D):dJ [a0,a1,a2,a3]=(hJ [some a0,some a1,some a2,some a3,none,none,none,none]).bind dD:=rfl
abbrev lY:DS->Option Res:=(aD (jq (gB (g2 zE (ae 1) (fI e9 (aa (ae 0) ai)))) (bH (g2 bu (ae 0) (ae 1))) cE)
  (bH (gC (.int (0)))))
def gA:List D->Option D:=d6 2 lY
theorem yF (a0 a1:D):gA [a0,a1]=(lY [some a0,some a1]).bind dD:=rfl
abbrev jz:DS->Option Res:=(aD (jP 3 (iK ai))
  (aD (d3 (eK (aa (ae 2) ai)) (aL 4)
   (aD (pS 3 (g2 fb (ae 0) (ae 1)))
  (aS 0 (g2 g4 (ae 0) (ae 1)))))
  (bH (ae 3))))
def eO:List D->Option (List D):=jR 5 jz
theorem ua (a0 a1 a2:D):eO [a0,a1,a2]=(jz [some a0,some a1,some a2,none,none]).bind jQ:=rfl
abbrev ki:DS->Option Res:=(aD (jP 3 (iK ai))
  (aD (d3 (eK (aa (ae 2) ai)) (aL 4)
   (aD (aS 5 (g2 fb (g2 bp (g2 bp (g2 bC (g2 fb (ae 0) (gC (.int (1000003)))) (gC (.int (48271)))) (g2 bC (g2 bC (ae 4) (ae 4)) (gC (.int (69621))))) (g2 bC (ae 4) (gC (.int (16807))))) (gC (.int (2147483647)))))
  (pS 3 (g2 fb (g2 g4 (g2 fb (g2 bp (g2 bC (ae 5) (gC (.int (39373)))) (ae 0)) (gC (.int (2147483629)))) (gC (.int (13)))) (ae 1)))))
  (bH (ae 3))))
def gZ:List D->Option (List D):=jR 6 ki
theorem wm (a0 a1 a2:D):gZ [a0,a1,a2]=(ki [some a0,some a1,some a2,none,none,none]).bind jQ:=rfl
abbrev lZ:DS->Option Res:=(aD (aS 2 (g2 g4 (ae 0) (gC (.int (4)))))
  (aD (aS 3 (g2 bp (gC (.int (100))) (g2 bC (gC (.int (200))) (fI CI (aa (g2 vn (ae 1) (gC (.int (12)))) ai)))))
  (aD (aS 4 (bQ (dU gZ 3 (aa (ae 2) (aa (gC (.int (3))) (aa (ae 3) ai))))))
  (aD (jq (gB (g2 PD (fI mS (aa (ae 0) ai)) (g2 vk (gC (.int (10))) (gC (.int (18)))))) (aS 4 (bQ (dU eO 3 (aa (ae 2) (aa (gC (.int (3))) (aa (ae 3) ai)))))) cE)
  (aD (jP 5 (iK (aa (aW (aa (gC (.int (0))) ai)) ai)))
  (aD (aS 6 (bQ (iK (aa (gC (.int (0))) (aa (gC (.int (1))) ai)))))
  (aD (aS 7 (gC (.int (0))))
  (aD (g6 (mQ (gB (g2 zE (fI e9 (aa (ae 5) ai)) (ae 1))) (gB (g2 vn (fI e9 (aa (ae 6) ai)) (gC (.int (0)))))) (aD (aS 8 (bQ (cz (js (ae 6)) 2 [4,3,7] (gT 2 (bN (aL 0) (bN (aL 1) hZ))) (gB (g2 vn (g2 bu (ae 2) (g2 fb (g2 bp (ae 4) (ae 0)) (ae 3))) (gC (.int (0))))) (ae 1))))
  (aD (aS 7 (g2 bp (ae 7) (fI e9 (aa (ae 6) ai))))
  (aD (jq (gB (g2 vn (g2 fb (ae 0) (gC (.int (4)))) (gC (.int (1))))) (aS 8 (bQ (CJ (ae 6) (lu (g2 bu (ae 4) (g2 fb (ae 7) (ae 3)))) (lu (fI oA (aa (gC (.int (0))) (aa (g2 dB (fI e9 (aa (ae 6) ai)) (g2 bu (ae 4) (g2 fb (g2 bp (ae 7) (gC (.int (1)))) (ae 3)))) ai))))))) cE)
  (aD (aS 6 (bQ (Kj (bQ (EY sX (ae 8) (bQ (fU (a9 (ae 8)) [] (g2 bp (ae 0) (gC (.int (1)))))))))))
  (jq (gB (g2 vn (fI e9 (aa (ae 8) ai)) (gC (.int (0))))) (pS 5 (fI j9 (aa (ae 8) ai))) cE))))))
  (bH (fI j9 (aa (ae 5) ai)))))))))))
def iG:List D->Option D:=d6 9 lZ
theorem yG (a0 a1:D):iG [a0,a1]=(lZ [some a0,some a1,none,none,none,none,none,none,none]).bind dD:=rfl
abbrev l5:DS->Option Res:=(aD (jP 1 (iK ai))
  (aD (d3 (oY (aa (gC (.int (1))) (aa (g2 bp (fI e9 (aa (ae 0) ai)) (gC (.int (1)))) ai))) (aL 2)
   (aD (aS 3 (aW ai))
  (aD (jq (gB (g2 zE (ae 2) (fI e9 (aa (ae 0) ai)))) (aS 3 (g2 bu (ae 0) (ae 2))) cE)
  (aD (aS 4 (bQ (Kj (bQ (EY sX (bQ (vv lJ (aa (g2 bu (ae 0) (g2 dB (ae 2) (gC (.int (1))))) ai))) (bQ (fU (a9 (g2 bu (ae 0) (g2 dB (ae 2) (gC (.int (1)))))) [] (g2 bp (ae 0) (gC (.int (1)))))))))))
  (A5 1 (cz (a9 (ae 4)) 1 [2,3] (aL 0) (gB (g2 tf (ae 0) (ae 2))) (aW (aa (ae 0) (aa (g2 dB (ae 1) (ae 0)) ai)))))))))
  (bH (ae 1))))
def gD:List D->Option (List D):=jR 5 l5
theorem yH (a0:D):gD [a0]=(l5 [some a0,none,none,none,none]).bind jQ:=rfl
abbrev l6:DS->Option Res:=(aD (Dd 1 (ym (aW (aa (gC (.int (0))) (aa (gC (.int (0))) ai))) (gC (.int (1)))))
  (aD (d3 (yk (ae 0)) (gT 2 (bN (aL 2) (bN (aL 3) hZ)))
   (d3 (a9 (ae 3)) (aL 4)
   (aD (aS 5 (p5 (ae 1) (aW (aa (ae 4) (aa (g2 dB (ae 2) (ae 4)) ai)))))
  (d3 (a9 (aW (aa (aW (aa (g2 bp (ae 4) (gC (.int (1)))) (aa (g2 dB (ae 2) (ae 4)) ai))) (aa (aW (aa (ae 4) (aa (g2 bp (g2 dB (ae 2) (ae 4)) (gC (.int (1)))) ai))) ai)))) (aL 6)
   (sr 1 (ae 6) (g2 bp (lS (ae 1) (ae 6) (gC (.int (0)))) (ae 5)))))))
  (bH (ae 1))))
def gF:List D->Option D:=d6 7 l6
theorem yI (a0:D):gF [a0]=(l6 [some a0,none,none,none,none,none,none]).bind dD:=rfl
abbrev kj:DS->Option Res:=(bH (oy (xP "int" (ae 0)) (g1 FQ (xP "bool" (ae 0)))))
def fL:List D->Option D:=d6 1 kj
theorem wq (a0:D):fL [a0]=(kj [some a0]).bind dD:=rfl
abbrev iZ:DS->Option Res:=(aD (g6 (gB (g2 CD (ae 1) (gC (.int (0))))) (FY 0 1 (aa (ae 1) (aa (g2 fb (ae 0) (ae 1)) ai))))
  (bH (fI mS (aa (ae 0) ai))))
def cU:List D->Option D:=d6 2 iZ
theorem rn (a0 a1:D):cU [a0,a1]=(iZ [some a0,some a1]).bind dD:=rfl
abbrev i4:DS->Option Res:=(aD (jq (zI (k8 (ja (xP "tuple" (ae 0)))) (zI (gB (g2 CD (fI e9 (aa (ae 0) ai)) (gC (.int (2))))) (zI (k8 (ja (aK fL 1 (aa (g2 bu (ae 0) (gC (.int (0)))) ai)))) (k8 (ja (aK fL 1 (aa (g2 bu (ae 0) (gC (.int (1)))) ai))))))) (bH (gC (.bool false))) cE)
  (aD (jq (zI (gB (g2 zE (g2 bu (ae 0) (gC (.int (1)))) (gC (.int (1))))) (gB (g2 CD (aK cU 2 (aa (g2 bu (ae 0) (gC (.int (0)))) (aa (g2 bu (ae 0) (gC (.int (1)))) ai))) (gC (.int (1)))))) (bH (gC (.bool false))) cE)
  (bH (g2 zF (g2 bC (g2 bu (ae 0) (gC (.int (0)))) (ae 2)) (g2 bC (ae 1) (g2 bu (ae 0) (gC (.int (1)))))))))
def cV:List D->Option D:=d6 3 i4
theorem ro (a0 a1 a2:D):cV [a0,a1,a2]=(i4 [some a0,some a1,some a2]).bind dD:=rfl
abbrev jA:DS->Option Res:=(aD (aS 1 (g2 bp (gC (.int (3))) (g2 fb (g2 g4 (ae 0) (gC (.int (2)))) (gC (.int (12))))))
  (aD (aS 2 (g2 g4 (ae 0) (gC (.int (24)))))
  (aD (jq (gB (g2 zF (g2 fb (ae 0) (gC (.int (2)))) (gC (.int (1))))) (aD (aS 1 (g2 bp (gC (.int (3))) (g2 fb (g2 g4 (ae 0) (gC (.int (2)))) (g2 vk (gC (.int (10))) (gC (.int (12)))))))
  (aS 2 (g2 bp (g2 g4 (g2 g4 (ae 0) (gC (.int (2)))) (g2 vk (gC (.int (10))) (gC (.int (12))))) (g2 g4 (ae 0) (gC (.int (7))))))) cE)
  (aD (aS 3 (g2 bp (gC (.int (1))) (g2 fb (ae 2) (g2 dB (ae 1) (gC (.int (2)))))))
  (aD (aS 4 (g2 bp (g2 bp (ae 3) (gC (.int (1)))) (g2 fb (g2 g4 (ae 2) (g2 dB (ae 1) (gC (.int (2))))) (g2 dB (g2 dB (ae 1) (gC (.int (1)))) (ae 3)))))
  (bH (aW (aa (ae 3) (aa (ae 4) (aa (ae 1) ai))))))))))
def eP:List D->Option D:=d6 5 jA
theorem ub (a0:D):eP [a0]=(jA [some a0,none,none,none,none]).bind dD:=rfl
abbrev l7:DS->Option Res:=(aD (aS 2 (aK cU 2 (aa (ae 0) (aa (ae 1) ai))))
  (bH (aW (aa (g2 g4 (ae 0) (ae 2)) (aa (g2 g4 (ae 1) (ae 2)) ai)))))
def d9:List D->Option D:=d6 3 l7
theorem yJ (a0 a1:D):d9 [a0,a1]=(l7 [some a0,some a1,none]).bind dD:=rfl
abbrev kl:DS->Option Res:=(aD (aS 2 (gC (.int (1))))
  (aD (d3 (eK (aa (ae 1) ai)) (aL 3)
   (aS 2 (g2 bC (ae 2) (ae 0))))
  (bH (ae 2))))
def cO:List D->Option D:=d6 4 kl
theorem wt (a0 a1:D):cO [a0,a1]=(kl [some a0,some a1,none,none]).bind dD:=rfl
abbrev jB:DS->Option Res:=(bH (g2 bC (aK cO 2 (aa (ae 1) (aa (g2 bu (ae 0) (gC (.int (0)))) ai))) (aK cO 2 (aa (g2 dB (ae 2) (ae 1)) (aa (g2 bu (ae 0) (gC (.int (1)))) ai)))))
def cA:List D->Option D:=d6 3 jB
theorem uc (a0 a1 a2:D):cA [a0,a1,a2]=(jB [some a0,some a1,some a2]).bind dD:=rfl
abbrev i5:DS->Option Res:=(aD (d3 (a9 (ae 1)) (aL 3)
   (aD (aS 4 (g2 bC (aK cA 3 (aa (ae 3) (aa (g2 bu (ae 2) (gC (.int (1)))) (aa (g2 bu (ae 2) (gC (.int (2)))) ai)))) (g2 bu (g2 bu (ae 0) (gC (.int (1)))) (gC (.int (1))))))
  (aD (aS 5 (g2 bC (aK cA 3 (aa (ae 3) (aa (g2 bu (ae 2) (gC (.int (0)))) (aa (g2 bu (ae 2) (gC (.int (2)))) ai)))) (g2 bu (g2 bu (ae 0) (gC (.int (1)))) (gC (.int (0))))))
  (jq (zI (mQ (gB (g2 (nR false) (ae 3) (g2 bu (ae 0) (gC (.int (0)))))) (gB (g2 zE (ae 4) (ae 5)))) (mQ (gB (g2 (nR true) (ae 3) (g2 bu (ae 0) (gC (.int (0)))))) (gB (g2 vn (ae 4) (ae 5))))) (bH (gC (.bool false))) cE))))
  (bH (gC (.bool true))))
def ff:List D->Option D:=d6 6 i5
theorem rp (a0 a1 a2:D):ff [a0,a1,a2]=(i5 [some a0,some a1,some a2,none,none,none]).bind dD:=rfl
abbrev l8:DS->Option Res:=(aD (aS 4 (bQ (iK (aa (aW (aa (gC (.int (0))) (aa (gC (.int (0))) ai))) ai))))
  (aD (d3 (Gb (ae 0) (ae 1)) (gT 2 (bN (aL 5) (bN (aL 6) hZ)))
   (aS 4 (bQ (EY sX (ae 4) (bQ (cz (a9 (ae 4)) 2 [5,6] (gT 2 (bN (aL 0) (bN (aL 1) hZ))) (fun _=>some true) (aW (aa (g2 bp (ae 0) (ae 2)) (aa (g2 bp (ae 1) (ae 3)) ai)))))))))
  (aD (d3 (a9 (ae 4)) (gT 2 (bN (aL 7) (bN (aL 8) hZ)))
   (jq (mQ (gB (g2 MU (ae 7) (ae 2))) (gB (g2 vn (ae 8) (ae 3)))) (bH (gC (.bool false))) cE))
  (bH (gC (.bool true))))))
def iH:List D->Option D:=d6 9 l8
theorem yK (a0 a1 a2 a3:D):iH [a0,a1,a2,a3]=(l8 [some a0,some a1,some a2,some a3,none,none,none,none,none]).bind dD:=rfl
abbrev km:DS->Option Res:=(aD (aS 3 (aK gF 1 (aa (ae 0) ai)))
  (aD (aS 4 (bQ (dU gD 1 (aa (ae 0) ai))))
  (aD (aS 5 (aK cO 2 (aa (g2 bu (ae 1) (gC (.int (2)))) (aa (fI e9 (aa (ae 0) ai)) ai))))
  (aD (jP 6 (iK ai))
  (aD (jP 7 (iK ai))
  (aD (d3 (a9 (ae 4)) (aL 8)
   (aD (aS 9 (g2 bC (p5 (ae 3) (ae 8)) (aK cO 2 (aa (g2 bu (ae 1) (gC (.int (2)))) (aa (g2 dB (g2 dB (fI e9 (aa (ae 0) ai)) (g2 bu (ae 8) (gC (.int (0))))) (g2 bu (ae 8) (gC (.int (1))))) ai)))))
  (aD (pS 6 (g2 bC (ae 9) (aK cA 3 (aa (ae 8) (aa (g2 bu (ae 1) (gC (.int (0)))) (aa (g2 bu (ae 1) (gC (.int (2)))) ai))))))
  (pS 7 (g2 bC (ae 9) (aK cA 3 (aa (ae 8) (aa (g2 bu (ae 1) (gC (.int (1)))) (aa (g2 bu (ae 1) (gC (.int (2)))) ai)))))))))
  (aD (aS 10 (aK dJ 4 (aa (ae 0) (aa (aK d9 2 (aa (g2 bu (ae 1) (gC (.int (0)))) (aa (g2 bu (ae 1) (gC (.int (2)))) ai))) (aa (aK d9 2 (aa (g2 bu (ae 1) (gC (.int (1)))) (aa (g2 bu (ae 1) (gC (.int (2)))) ai))) (aa (ae 2) ai))))))
  (aD (jq (zI (gB (g2 CD (bQ (cz (a9 (ae 4)) 1 [10] (aL 0) (gB (g2 (nR false) (ae 0) (g2 bu (ae 1) (gC (.int (0)))))) (ae 0))) (g2 bu (ae 10) (gC (.int (0)))))) (k8 (ja (aK ff 3 (aa (ae 10) (aa (ae 4) (aa (ae 1) ai))))))) (bH (gC (.bool false))) cE)
  (aD (aS 11 (fI Bq (aa (bQ (cz (eK (aa (fI e9 (aa (ae 4) ai)) ai)) 1 [6,4,10] (aL 0) (gB (g2 (nR false) (g2 bu (ae 2) (ae 0)) (g2 bu (ae 3) (gC (.int (0)))))) (g2 bu (ae 1) (ae 0)))) ai)))
  (aD (aS 12 (fI Bq (aa (bQ (cz (eK (aa (fI e9 (aa (ae 4) ai)) ai)) 1 [7,4,10] (aL 0) (gB (g2 (nR false) (g2 bu (ae 2) (ae 0)) (g2 bu (ae 3) (gC (.int (0)))))) (g2 bu (ae 1) (ae 0)))) ai)))
  (aD (jq (zI (k8 (ja (aK cV 3 (aa (g2 bu (ae 10) (gC (.int (2)))) (aa (ae 11) (aa (ae 5) ai)))))) (k8 (ja (aK cV 3 (aa (g2 bu (ae 10) (gC (.int (3)))) (aa (ae 12) (aa (ae 5) ai))))))) (bH (gC (.bool false))) cE)
  (bH (oy (g2 MU (g2 bC (ae 11) (g2 bu (ae 2) (gC (.int (1))))) (g2 bC (g2 bu (ae 2) (gC (.int (0)))) (ae 5))) (mR iH 4 (aa (ae 6) (aa (ae 7) (aa (ae 11) (aa (ae 12) ai))))))))))))))))))
def g0:List D->Option D:=d6 13 km
theorem wu (a0 a1 a2:D):g0 [a0,a1,a2]=(km [some a0,some a1,some a2,none,none,none,none,none,none,none,none,none,none]).bind dD:=rfl
abbrev DR:DS->Option Res:=(aD (d3 (eK (aa (fI oA (aa (gC (.int (1))) (aa (fI vw (aa (gC (.int (3))) (aa (fI e9 (aa (ae 0) ai)) ai))) ai))) ai)) (aL 1)
   (aD (aS 2 (aK gA 2 (aa (ae 0) (aa (ae 1) ai))))
  (aD (aS 3 (aK gA 2 (aa (ae 0) (aa (g2 bp (ae 1) (gC (.int (1)))) ai))))
  (aD (aS 4 (aK iG 2 (aa (g2 g4 (ae 2) (gC (.int (4)))) (aa (g2 bp (gC (.int (1))) (g2 fb (ae 2) (gC (.int (4))))) ai))))
  (jq (k8 (ja (aK g0 3 (aa (ae 4) (aa (aK eP 1 (aa (g2 g4 (ae 3) (gC (.int (101)))) ai)) (aa (aK d9 2 (aa (g2 fb (ae 3) (gC (.int (101)))) (aa (gC (.int (100))) ai))) ai)))))) (bH (gC (.bool false))) cE)))))
  (bH (gC (.bool true))))
def sE:List D->Option D:=d6 5 DR
theorem NT (a0:D):sE [a0]=(DR [some a0,none,none,none,none]).bind dD:=rfl
end aF
open L2
local macro_rules | `(tactic| walk_at "pu")=>`(tactic| simp only [aD,cE,jq,aS,jP,bH,pQ,PL,ae,gC,bQ,g2,EY,g1,gB,k8,mQ,zI,oy,PJ,PK,ja,FT,aa,ai,aW,iK,aK,dU,mR,iD,fI,vv,FY,pS,PM,JV,MX,d3,a9,A6,CJ,lu,FX,nK,xP,aL,gT,bN,hZ,df,vj,aF.yx,aF.DO,aF.K3,aF.GJ,aF.IF,aF.Ae,aF.NS,aF.fm,aF.dX,aF.GK,aF.GL,mS,oA,vw,CI,lJ,j9,xK,FQ,aF.Ab,aF.Ac,aF.Ad,aF.GF,aF.GH,aF.GI,aF.tV,aF.wb,aF.yw,aF.nY,dD,jQ,vD,xl,nG,
 List.getElem?_cons_zero,List.getElem?_cons_succ,List.set_cons_zero,List.set_cons_succ,List.map_cons,List.map_nil,Option.join_some,Option.bind_some,Option.map_some,List.length_cons,List.length_nil,Option.bind_none,if_true,if_false,decide_eq_true_eq,Bool.not_eq_true',decide_eq_false_iff_not,Bool.not_true,Bool.not_false,reduceIte,Nat.reduceAdd,Nat.reduceLeDiff,Nat.reduceEqDiff,Bool.false_eq_true,Bool.and_true,Bool.and_self,Bool.true_and,Bool.and_false,Bool.or_false,Bool.or_true,Bool.false_or,Bool.true_or])
namespace aF
open PySem L2 Q1
theorem qt (ns:List Int) (k:Nat):gA [.list (ns.map .int),.int k]=some (.int (ns.getD k 0)):=by
 rw [yF]
 simp only [aD,jq,gB,g2,ae,List.getElem?_cons_succ,List.getElem?_cons_zero,Option.join_some,fI,aa,ai,Option.bind_some,yx,vj,bH,IF,cE,decide_eq_true_eq,gC]
 rw [List.length_map,List.getD_eq_getElem?_getD]
 by_cases h:k < ns.length
 ·rw [if_pos (by omega),h9 (v:=.int ns[k]) (by rw [List.getElem?_map,List.getElem?_eq_getElem h]; rfl),List.getElem?_eq_getElem h]
  rfl
 ·rw [if_neg (by omega),List.getElem?_eq_none (by omega)]
  rfl
theorem wx (i:Int):fL [.int i]=some (.bool true):=by
 rw [wq]
 simp only [bH,oy,gB,xP,ae,List.getElem?_cons_zero,Option.join_some,Option.bind_some,Ab,g1,Ac,FQ,Bool.not_false,if_true,dD]
theorem lA (a b:Int) (hb:0<=b):cU [.int a,.int b]=some (.int (Int.gcd a b:Nat)):=by
 rw [rn]
 refine bb ?_
 refine nW (fun m δ=>∃ x:Int,δ=[some (.int x),some (.int (m:Nat))] /\ Int.gcd x (m:Int)=Int.gcd a b) (fun δ=>∃ x:Int,δ=[some (.int x),some (.int 0)] /\ x.natAbs=Int.gcd a b) b.toNat ?_ ?_ ?_
 ·exact ⟨a,by rw [Int.toNat_of_nonneg hb],by rw [Int.toNat_of_nonneg hb]⟩
 ·rintro m δ ⟨x,rfl,hg⟩
  by_cases hm:m=0
  ·subst hm
   exact .inl ⟨by simp only [gB,g2,ae,List.getElem?_cons_succ,List.getElem?_cons_zero,Option.join_some,gC,Option.bind_some,nY]; rfl,x,rfl,by simpa using hg⟩
  ·have h1:0<=x % (m:Int):=Int.emod_nonneg _ (by omega)
   have h2:x % (m:Int) < m:=Int.emod_lt_of_pos _ (by omega)
   refine .inr ⟨by simp only [gB,g2,ae,List.getElem?_cons_succ,List.getElem?_cons_zero,Option.join_some,gC,Option.bind_some,nY]; simp; omega,[some (.int m),some (.int (x % (m:Int)))],(x % (m:Int)).toNat,by simp only [FY,aa,ae,List.getElem?_cons_succ,List.getElem?_cons_zero,Option.join_some,g2,Option.bind_some,ai,List.set_cons_zero,List.set_cons_succ]; rw [gm (by omega)]; rfl,by omega,m,by rw [Int.toNat_of_nonneg h1],?_⟩
   rw [Int.toNat_of_nonneg h1,DG,hg]
 ·rintro δ' ⟨x,rfl,h2⟩
  exact ret _ (by simp only [fI,aa,ae,List.getElem?_cons_zero,Option.join_some,ai,Option.bind_some,mS]; rw [tR,h2]) (.mk rfl rfl)
theorem rq {n d t b:Int} (hq:lz n d t b) (m1:IntMulOk n b) (m2:IntMulOk t d):cV [dF (n,d),.int t,.int b]=some (.bool true):=by
 rw [ro]
 refine bb ?_
 have hp:=hq.pos
 have hg:=lA n d (by omega)
 rw [hq.DE] at hg
 unfold dF
 refine nX ?_ (nX ?_ (ret (.bool true) ?_ (.mk rfl rfl)))
 ·simp only [zI,k8,ja,xP,ae,List.getElem?_cons_zero,Option.join_some,Option.bind_some,Ad,FT,Option.map_some,Bool.not_true,gB,g2,fI,aa,ai,DO,List.length_cons,List.length_nil,Nat.reduceAdd,gC,nY,aK,Ae,tV,if_true,wb,Bool.not_eq_true',decide_eq_false_iff_not,Bool.false_eq_true,if_false]
  simp only [wx]
  simp only [Option.bind_some,FT,Option.map_some,Bool.not_true,Bool.false_eq_true,if_false]
  rfl
 ·simp only [zI,gB,g2,ae,List.getElem?_cons_zero,Option.join_some,gC,Option.bind_some,Ae,wb,vj,aK,aa,tV,ai,List.length_cons,List.length_nil,Nat.reduceAdd,if_true,decide_eq_true_eq]
  rw [if_neg (by omega),hg]
  rfl
 ·simp only [g2,ae,List.getElem?_cons_zero,Option.join_some,gC,Option.bind_some,Ae,tV,List.getElem?_cons_succ,wb]
  rw [cB m1,cB m2,hq.eq]
  simp only [Option.bind_some,yw]
  simp
theorem l9 (t b:Int) (hb:1<=b) (QL:bt b<=9000):d9 [.int t,.int b]=some (dF (aX t b)):=by
 rw [yJ]
 refine bb ?_
 have Kd:b≠0:=by omega
 have hg:0 < Int.gcd t b:=Int.gcd_pos_of_ne_zero_right _ Kd
 have E6:bt ((Int.gcd t b:Nat):Int)<=9000:=by
  refine eY ?_ QL
  have:(Int.gcd t b) ∣ b.natAbs:=Nat.gcd_dvd_right _ _
  have:=Nat.le_of_dvd (by omega) this
  omega
 have e:dv t b=(Int.gcd t b:Int):=by unfold dv; rw [if_neg (by omega)]
 refine aM [some (.int t),some (.int b),some (.int (Int.gcd t b:Nat))] (by walk_at "pu"; rw [lA t b (by omega)]; rfl) (ret (dF (aX t b)) ?_ (.mk rfl rfl))
 walk_at "pu"
 rw [tU (by omega) E6,tU (by omega) E6,<- e]
 rfl
def dR (r:List Int):D:=.tuple (r.map .int)
def dn (p:List (List Int)):D:=.tuple (p.map dR)
def wy (l:List Int):Prop:=l.Pairwise (· < ·)
def led (r:List Int):List Int:=ss (r ++ r.map (· + 1))
def Nx (r s:List Int):Prop:=s≠[] /\ wy s /\ ∀ x∈s,x∈led r
def IG:List Int->List (List Int)->Prop
 | _,[]=>True
 | r,s :: q=>Nx r s /\ IG s q
def lst:List Int->List (List Int)->List Int
 | r,[]=>r
 | _,s :: q=>lst s q
theorem wz {s:List Int}:∀ {q:List (List Int)} {r:List Int},IG r q->Nx (lst r q) s->IG r (q ++ [s])
 | [],_,_,h=>⟨h,trivial⟩
 | _ :: _,_,h1,h2=>⟨h1.1,wz h1.2 h2⟩
theorem lst_snoc {s:List Int}:∀ {q:List (List Int)} {r:List Int},lst r (q ++ [s])=s
 | [],_=>rfl
 | _ :: q,_=>lst_snoc (q:=q)
structure Pl (p:List (List Int)):Prop where
 ex:∃ q,p=[0] :: q /\ IG [0] q
theorem kO {x:Int} {r:List Int}:x∈led r↔x∈r \/ x - 1∈r:=by
 unfold led
 rw [yc,List.mem_append,List.mem_map]
 constructor
 ·rintro (h | ⟨y,h,e⟩)
  ·exact .inl h
  ·exact .inr (by have:x - 1=y:=(by omega); rw [this]; exact h)
 ·rintro (h | h)
  ·exact .inl h
  ·exact .inr ⟨x - 1,h,by omega⟩
theorem wA:∀ {l:List Int} {a b:Int},wy l->(∀ x∈l,a<=x /\ x<=b)->(l.length:Int)<=max 0 (b - a + 1)
 | [],a,b,_,_=>by simp; omega
 | x :: l,a,b,h,hb=>by
   obtain ⟨h1,h2⟩:=List.pairwise_cons.mp h
   have hx:=hb x List.mem_cons_self
   have:=wA (l:=l) (a:=x + 1) (b:=b) h2 fun y hy=>⟨by have:=h1 y hy; omega,(hb y (List.mem_cons_of_mem _ hy)).2⟩
   rw [List.length_cons]
   push_cast
   omega
theorem ma {i:Nat} {g:DS->Option D} {δ:DS} {ds:List D} {d:D} (h1:ae i δ=some (.list ds)) (h2:g δ=some d) (h3:ds.length < 100000):pS i g δ=some (.nx (δ.set i (some (.list (ds ++ [d]))))):=by
 unfold pS
 rw [h1,h2]
 show (if ds.length < 100000 then _ else _)=_
 rw [if_pos h3]
theorem NU {g:DS->Option D} {δ:DS} {d:D} {ns:List Int} (h:g δ=some d) (h2:Ki d=some (ns.map .int)) (h3:ns.length < 64):Kj g δ=some ((ss ns).map .int):=by
 unfold Kj
 rw [h,Option.bind_some,h2,Option.bind_some,je,Option.bind_some,if_pos h3]
theorem DT {a b:DS->Option D} {δ:DS} {x y:List D} (h1:a δ=some (.list x)) (h2:b δ=some (.list y)) (h3:x.length + y.length<=100000):EY sX a b δ=some (x ++ y):=by
 unfold EY
 rw [h1,h2]
 show (if x.length + y.length<=100000 then _ else _)=_
 rw [if_pos h3]
theorem oH {c:DS->Option Bool} {a b:DS->Option Res} {δ:DS} {r:Option Res} (x:Bool) (h:c δ=some x) (h1:x=true->a δ=r) (h2:x=false->b δ=r):jq c a b δ=r:=by
 unfold jq
 rw [h]
 cases x with
 | true=>exact h1 rfl
 | false=>exact h2 rfl
theorem DU {α:Type} (enc:α->D) (l:List α) (lo hi:Option Int):∃ m:List α,cutD (l.map enc) lo hi=m.map enc /\ m.Sublist l:=by
 refine ⟨(l.drop (HT.qX l.length 0 lo)).take (HT.qX l.length l.length hi - HT.qX l.length 0 lo),?_,(List.take_sublist _ _).trans (List.drop_sublist _ _)⟩
 unfold cutD
 rw [List.length_map,List.map_take,List.map_drop]
theorem sF {f:List D->Option D} {g:DS->Option (List D)} {δ:DS} {ds:List D} {r:Option D} (h:g δ=some ds) (h2:f ds=r):fI f g δ=r:=by unfold fI; rw [h]; exact h2
theorem part_of {g:DS->Option D} {δ:DS} {i:Int} (h:g δ=some (.int i)):lu g δ=some (some i):=by unfold lu; rw [h]; rfl
theorem yL {a b:DS->Option D} {δ:DS} {r:List Int} (h1:a δ=some (.list (r.map .int))) (h2:b δ=some (.list (r.map .int)) \/ b δ=some (dR r)) (hl:r.length < 32):Kj (bQ (EY sX a (bQ (fU (a9 b) [] (g2 bp (ae 0) (gC (.int 1))))))) δ=some ((led r).map .int):=by
 have hi:a9 b δ=some (r.map .int):=by
  unfold a9
  rcases h2 with h2 | h2
  ·rw [h2]; rfl
  ·rw [h2]; rfl
 have hc:fU (a9 b) [] (g2 bp (ae 0) (gC (.int 1))) δ=some ((r.map (· + 1)).map .int):=kK PyData.int PyData.int (fun x=>x + 1) r hi (by omega) (fun x _=>rfl)
 have QM:=DT h1 (bP hc) (by simp; omega)
 refine NU (bP QM) ?_ (by simp; omega)
 rw [List.map_append]
 rfl
theorem wB (c b:Int) (n:Nat) (hb:0 < b) (hn:n<=1000):d8 (gZ [.int c,.int b,.int (n:Nat)]) fun ds=>∃ l:List Int,ds=l.map .int /\ l.length=n /\ ∀ x∈l,0<=x /\ x < b:=by
 rw [wm]
 refine aM [some (.int c),some (.int b),some (.int (n:Nat)),some (.list []),none,none] rfl ?_
 refine jh 0 n (fun i δ=>∃ (l:List Int) (x y:Option D),δ=[some (.int c),some (.int b),some (.int (n:Nat)),some (.list (l.map .int)),x,y] /\ l.length=i /\ ∀ x∈l,0<=x /\ x < b) (iw rfl (by omega)) ⟨[],none,none,rfl,rfl,by simp⟩ ?_ ?_
 ·rintro i δ hi ⟨l,x,y,rfl,hl,hx⟩
  have m1:bC (.int (c % 1000003)) (.int 48271)=some (.int (c % 1000003 * 48271)):=cB (mul_right (by decide) (by decide))
  have m2:bC (.int (0 + (i:Int))) (.int (0 + (i:Int)))=some (.int ((0 + (i:Int)) * (0 + (i:Int)))):=cB (mul_right (by omega) (by omega))
  have m3:bC (.int ((0 + (i:Int)) * (0 + (i:Int)))) (.int 69621)=some (.int ((0 + (i:Int)) * (0 + (i:Int)) * 69621)):=cB (mul_right (by decide) (by decide))
  have m4:bC (.int (0 + (i:Int))) (.int 16807)=some (.int ((0 + (i:Int)) * 16807)):=cB (mul_right (by decide) (by decide))
  refine ⟨_,[some (.int c),some (.int b),some (.int (n:Nat)),some (.list ((l ++ [_]).map .int)),some (.int (0 + (i:Int))),some (.int ((c % 1000003 * 48271 + (0 + (i:Int)) * (0 + (i:Int)) * 69621 + (0 + (i:Int)) * 16807) % 2147483647))],rfl,
   bV [some (.int c),some (.int b),some (.int (n:Nat)),some (.list (l.map .int)),some (.int (0 + (i:Int))),some (.int ((c % 1000003 * 48271 + (0 + (i:Int)) * (0 + (i:Int)) * 69621 + (0 + (i:Int)) * 16807) % 2147483647))]
    (aP (ak (ak (ak (ak (ak rfl rfl (gm (by decide))) rfl m1) (ak (ak rfl rfl m2) rfl m3) rfl) (ak rfl rfl m4) rfl) rfl (gm (by decide))))
    ((ma (d:=.int (((c % 1000003 * 48271 + (0 + (i:Int)) * (0 + (i:Int)) * 69621 + (0 + (i:Int)) * 16807) % 2147483647 * 39373 + c) % 2147483629 / 13 % b)) rfl
      (ak (ak (ak (ak (ak rfl rfl (cB (mul_right (by decide) (by decide)))) rfl rfl) rfl (gm (by decide))) rfl (oG (by decide) (bD (dq (m:=4) (by decide)) (by decide)))) rfl (gm hb)) (by simp; omega)).trans (by rw [List.map_append]; rfl)),l ++ [_],_,_,rfl,by simp [hl],?_⟩
  intro z hz
  rcases List.mem_append.mp hz with q | q
  ·exact hx z q
  ·rw [List.mem_singleton.mp q]
   exact ⟨Int.emod_nonneg _ (by omega),Int.emod_lt_of_pos _ hb⟩
 ·rintro δ' ⟨l,x,y,rfl,hl,hx⟩
  exact ret (.list (l.map .int)) rfl (.mk rfl ⟨l,rfl,hl,hx⟩)
theorem ud (c b:Int) (n:Nat) (hb:0 < b) (QL:bt b<=9000) (hn:n<=1000):d8 (eO [.int c,.int b,.int (n:Nat)]) fun ds=>∃ l:List Int,ds=l.map .int /\ l.length=n /\ ∀ x∈l,0<=x /\ x < b:=by
 rw [ua]
 refine aM [some (.int c),some (.int b),some (.int (n:Nat)),some (.list []),none] rfl ?_
 refine jh 0 n (fun i δ=>∃ (c:Int) (l:List Int) (x:Option D),δ=[some (.int c),some (.int b),some (.int (n:Nat)),some (.list (l.map .int)),x] /\ l.length=i /\ ∀ x∈l,0<=x /\ x < b) (iw rfl (by omega)) ⟨c,[],none,rfl,rfl,by simp⟩ ?_ ?_
 ·rintro i δ hi ⟨c,l,x,rfl,hl,hx⟩
  refine ⟨_,[some (.int (c / b)),some (.int b),some (.int (n:Nat)),some (.list ((l ++ [c % b]).map .int)),some (.int (0 + (i:Int)))],rfl,
   bV [some (.int c),some (.int b),some (.int (n:Nat)),some (.list ((l ++ [c % b]).map .int)),some (.int (0 + (i:Int)))] ((ma (d:=.int (c % b)) rfl (ak rfl rfl (gm hb)) (by simp; omega)).trans (by rw [List.map_append]; rfl)) (aP (ak rfl rfl (oG hb QL))),c / b,l ++ [c % b],_,rfl,by simp [hl],?_⟩
  intro z hz
  rcases List.mem_append.mp hz with q | q
  ·exact hx z q
  ·rw [List.mem_singleton.mp q]
   exact ⟨Int.emod_nonneg _ (by omega),Int.emod_lt_of_pos _ hb⟩
 ·rintro δ' ⟨c,l,x,rfl,hl,hx⟩
  exact ret (.list (l.map .int)) rfl (.mk rfl ⟨l,rfl,hl,hx⟩)
theorem Ag {f:D->Option (Option D)} (hf:∀ (k:Nat) (x:Int),∃ b:Bool,f (.tuple [.int (k:Nat),.int x])=some (if b=true then some (.int x) else none)):∀ (l:List Int) (n:Nat),∃ m:List Int,lQ f (((l.map PyData.int).zipIdx n).map fun p=>.tuple [.int (p.2:Nat),p.1])=some (m.map .int) /\ m.Sublist l
 | [],n=>⟨[],rfl,.slnil⟩
 | x :: l,n=>by
   obtain ⟨m,e,hs⟩:=Ag hf l (n + 1)
   obtain ⟨b,hb⟩:=hf n x
   rw [List.map_cons,List.zipIdx_cons,List.map_cons,lQ,hb,Option.bind_some,e,Option.bind_some]
   cases b with
   | true=>exact ⟨x :: m,rfl,hs.cons₂ x⟩
   | false=>exact ⟨m,rfl,hs.cons x⟩
theorem yM {l:List Int} {i:Int} (h0:0<=i) (h1:i < l.length):∃ x,x∈l /\ bu (.list (l.map .int)) (.int i)=some (.int x):=by
 obtain ⟨k,rfl⟩:∃ k:Nat,i=(k:Int):=⟨i.toNat,by omega⟩
 have hk:k < l.length:=by omega
 exact ⟨l[k],List.getElem_mem hk,h9 (by rw [List.getElem?_map,List.getElem?_eq_getElem hk]; rfl)⟩
theorem QN:led [0]=[0,1]:=Iq (by simp) (by intro z; simp)
theorem yN (c:Int) (m:Nat) (IB:1<=m) (hm:m<=24):d8 (iG [.int c,.int (m:Nat)]) fun d=>∃ p,d=dn p /\ Pl p /\ p.length<=m /\ ∀ r∈p,r.length<=25:=by
 rw [yG]
 have Zu:vk (.int 10) (.int 18)=some (.int (10 ^ 18)):=IE (k:=18) (by decide) (by decide)
 obtain ⟨many,NV,K8,NW⟩:∃ many:Nat,100<=many /\ many<=300 /\ g2 bp (gC (.int (100))) (g2 bC (gC (.int (200))) (fI CI (aa (g2 vn (ae 1) (gC (.int (12)))) ai))) [some (.int c),some (.int (m:Nat)),some (.int (c / 4)),none,none,none,none,none,none]=some (.int (many:Nat)):=by
  by_cases h:(12:Int) < (m:Int)
  ·refine ⟨300,by decide,by decide,ak rfl (ak rfl (show _=some (.int 1) from ?_) (cB (mul_right (by decide) (by decide)))) rfl⟩
   show some (PyData.int (if decide ((12:Int) < (m:Int))=true then 1 else 0))=_
   rw [decide_eq_true h]; rfl
  ·refine ⟨100,by decide,by decide,ak rfl (ak rfl (show _=some (.int 0) from ?_) (cB (mul_right (by decide) (by decide)))) rfl⟩
   show some (PyData.int (if decide ((12:Int) < (m:Int))=true then 1 else 0))=_
   rw [decide_eq_false h]; rfl
 have DV:(0:Int) < (many:Int):=Int.ofNat_lt.mpr (Nat.lt_of_lt_of_le (by decide) NV)
 have DW:many<=1000:=Nat.le_trans K8 (by decide)
 refine aM [some (.int c),some (.int (m:Nat)),some (.int (c / 4)),none,none,none,none,none,none] (aP (ak rfl rfl (oG (by decide) (bD (dq (m:=4) (by decide)) (by decide))))) ?_
 refine aM [some (.int c),some (.int (m:Nat)),some (.int (c / 4)),some (.int (many:Nat)),none,none,none,none,none] (aP NW) ?_
 obtain ⟨_,e1,l1,rfl,OC,Xm⟩:=wB (c / 4) 3 many (by decide) DW
 refine aM [some (.int c),some (.int (m:Nat)),some (.int (c / 4)),some (.int (many:Nat)),some (.list (l1.map .int)),none,none,none,none] (aP (bP (gX (cons_of rfl (cons_of rfl (cons_of rfl rfl))) rfl e1))) ?_
 have dig:∃ dg:List Int,dg.length=many /\ jq (gB (g2 PD (fI mS (aa (ae 0) ai)) (g2 vk (gC (.int (10))) (gC (.int (18)))))) (aS 4 (bQ (dU eO 3 (aa (ae 2) (aa (gC (.int (3))) (aa (ae 3) ai)))))) cE [some (.int c),some (.int (m:Nat)),some (.int (c / 4)),some (.int (many:Nat)),some (.list (l1.map .int)),none,none,none,none]
   =some (.nx [some (.int c),some (.int (m:Nat)),some (.int (c / 4)),some (.int (many:Nat)),some (.list (dg.map .int)),none,none,none,none]):=by
  obtain ⟨_,e2,l2,rfl,JB,Zv⟩:=ud (c / 4) 3 many (by decide) (bD (dq (m:=4) (by decide)) (by decide)) DW
  have hc:gB (g2 PD (fI mS (aa (ae 0) ai)) (g2 vk (gC (.int (10))) (gC (.int (18))))) [some (.int c),some (.int (m:Nat)),some (.int (c / 4)),some (.int (many:Nat)),some (.list (l1.map .int)),none,none,none,none]=some (decide ((10 ^ 18:Int)<=(if c < 0 then -c else c))):=dG (ak rfl Zu rfl)
  by_cases h:((10 ^ 18:Int)<=(if c < 0 then -c else c))
  ·exact ⟨l2,JB,oH true (by rw [hc,decide_eq_true h]) (fun _=>aP (bP (gX (cons_of rfl (cons_of rfl (cons_of rfl rfl))) rfl e2))) (fun z=>nomatch z)⟩
  ·exact ⟨l1,OC,oH false (by rw [hc,decide_eq_false h]) (fun z=>nomatch z) (fun _=>rfl)⟩
 obtain ⟨dg,QO,Zw⟩:=dig
 refine aM _ Zw ?_
 refine aM [some (.int c),some (.int (m:Nat)),some (.int (c / 4)),some (.int (many:Nat)),some (.list (dg.map .int)),some (.list [dR [0]]),none,none,none] rfl ?_
 refine aM [some (.int c),some (.int (m:Nat)),some (.int (c / 4)),some (.int (many:Nat)),some (.list (dg.map .int)),some (.list [dR [0]]),some (.list (([0,1]:List Int).map .int)),none,none] rfl ?_
 refine aM [some (.int c),some (.int (m:Nat)),some (.int (c / 4)),some (.int (many:Nat)),some (.list (dg.map .int)),some (.list [dR [0]]),some (.list (([0,1]:List Int).map .int)),some (.int 0),none] rfl ?_
 refine nW (fun k δ=>∃ (q:List (List Int)) (cC:List Int) (pos:Nat) (z:Option D),δ=[some (.int c),some (.int (m:Nat)),some (.int (c / 4)),some (.int (many:Nat)),some (.list (dg.map .int)),some (.list (([0] :: q).map dR)),some (.list (cC.map .int)),some (.int (pos:Nat)),z] /\
   IG [0] q /\ q.length + 1<=m /\ (cC=[] \/ cC=led (lst [0] q)) /\ wy cC /\ (∀ x∈cC,0<=x /\ x<=(q.length:Int) + 1) /\ (∀ r∈q,r.length<=25) /\ k=2 * (m - q.length) + (if cC=[] then 0 else 1))
  (fun δ=>∃ (q:List (List Int)) (x y z:Option D),δ=[some (.int c),some (.int (m:Nat)),some (.int (c / 4)),some (.int (many:Nat)),some (.list (dg.map .int)),some (.list (([0] :: q).map dR)),x,y,z] /\ IG [0] q /\ q.length + 1<=m /\ ∀ r∈q,r.length<=25)
  (2 * m + 1) ⟨[],[0,1],0,none,rfl,trivial,by simpa using IB,.inr QN.symm,by unfold wy; simp,by intro x hx; simp at hx; rcases hx with h | h <;> subst h <;> decide,by simp,by simp⟩ ?_ ?_
 ·rintro k δ ⟨q,cC,pos,z,rfl,hq,OQ,NX,hr,hb,k9,rfl⟩
  have hlen:cC.length<=q.length + 2:=by
   have:=wA hr hb
   omega
  have cond:mQ (gB (g2 zE (fI e9 (aa (ae 5) ai)) (ae 1))) (gB (g2 vn (fI e9 (aa (ae 6) ai)) (gC (.int (0))))) [some (.int c),some (.int (m:Nat)),some (.int (c / 4)),some (.int (many:Nat)),some (.list (dg.map .int)),some (.list (([0] :: q).map dR)),some (.list (cC.map .int)),some (.int (pos:Nat)),z]
    =some (decide ((((([0] :: q).map dR).length:Nat):Int) < (m:Int)) && decide ((0:Int) < (((cC.map PyData.int).length:Nat):Int))):=by
   by_cases h:((((([0] :: q).map dR).length:Nat):Int) < (m:Int))
   ·rw [decide_eq_true h,Bool.true_and]
    exact nZ (dG (b:=true) (show _=_ from congrArg (fun b=>some (PyData.bool b)) (decide_eq_true h))) (dG rfl)
   ·rw [decide_eq_false h,Bool.false_and]
    have h1:gB (g2 zE (fI e9 (aa (ae 5) ai)) (ae 1)) [some (.int c),some (.int (m:Nat)),some (.int (c / 4)),some (.int (many:Nat)),some (.list (dg.map .int)),some (.list (([0] :: q).map dR)),some (.list (cC.map .int)),some (.int (pos:Nat)),z]=some false:=
     dG (b:=false) (show _=_ from congrArg (fun b=>some (PyData.bool b)) (decide_eq_false h))
    unfold mQ
    rw [h1]; rfl
  rw [cond]
  cases qT:(decide ((((([0] :: q).map dR).length:Nat):Int) < (m:Int)) && decide ((0:Int) < (((cC.map PyData.int).length:Nat):Int))) with
  | false=>exact .inl ⟨rfl,q,_,_,_,rfl,hq,OQ,k9⟩
  | true=>
    rw [Bool.and_eq_true,decide_eq_true_eq,decide_eq_true_eq] at qT
    have Zx:q.length + 1 < m:=by
     have:=qT.1
     simp at this
     omega
    have iJ:cC≠[]:=by
     intro e
     subst e
     simp at qT
    have nO:cC=led (lst [0] q):=NX.resolve_left iJ
    refine .inr ⟨rfl,?_⟩
    have comp:∃ r1:List Int,cz (js (ae 6)) 2 [4,3,7] (gT 2 (bN (aL 0) (bN (aL 1) hZ))) (gB (g2 vn (g2 bu (ae 2) (g2 fb (g2 bp (ae 4) (ae 0)) (ae 3))) (gC (.int (0))))) (ae 1)
      [some (.int c),some (.int (m:Nat)),some (.int (c / 4)),some (.int (many:Nat)),some (.list (dg.map .int)),some (.list (([0] :: q).map dR)),some (.list (cC.map .int)),some (.int (pos:Nat)),z]=some (r1.map .int) /\ r1.Sublist cC:=by
     obtain ⟨f,ef⟩:∃ f:D->Option (Option D),f=fun d=>(gT 2 (bN (aL 0) (bN (aL 1) hZ)) d (List.replicate 2 none ++ df [4,3,7] [some (.int c),some (.int (m:Nat)),some (.int (c / 4)),some (.int (many:Nat)),some (.list (dg.map .int)),some (.list (([0] :: q).map dR)),some (.list (cC.map .int)),some (.int (pos:Nat)),z])).bind fun dW=>
       (gB (g2 vn (g2 bu (ae 2) (g2 fb (g2 bp (ae 4) (ae 0)) (ae 3))) (gC (.int (0)))) dW).bind fun b=>if b=true then (ae 1 dW).map some else some none:=⟨_,rfl⟩
     have hf:∀ (k:Nat) (x:Int),∃ b:Bool,f (.tuple [.int (k:Nat),.int x])=some (if b=true then some (.int x) else none):=by
      intro k x
      obtain ⟨y,_,ey⟩:=yM (l:=dg) (i:=((pos:Nat) + (k:Nat):Int) % (many:Nat)) (Int.emod_nonneg _ (Int.ne_of_gt DV)) (by rw [QO]; exact Int.emod_lt_of_pos _ DV)
      refine ⟨decide (0 < y),?_⟩
      rw [ef]
      show (Option.bind (some [some (PyData.int (k:Nat)),some (.int x),some (.list (dg.map .int)),some (.int (many:Nat)),some (.int (pos:Nat))]) _)=_
      rw [Option.bind_some]
      have hb:gB (g2 vn (g2 bu (ae 2) (g2 fb (g2 bp (ae 4) (ae 0)) (ae 3))) (gC (.int (0)))) [some (PyData.int (k:Nat)),some (.int x),some (.list (dg.map .int)),some (.int (many:Nat)),some (.int (pos:Nat))]=some (decide (0 < y)):=
       dG (ak (ak rfl (ak (ak rfl rfl rfl) rfl (gm DV)) ey) rfl rfl)
      rw [hb,Option.bind_some]
      cases decide (0 < y) <;> rfl
     obtain ⟨m1,Xs,CW⟩:=Ag hf cC 0
     refine ⟨m1,?_,CW⟩
     unfold cz
     rw [show js (ae 6) [some (.int c),some (.int (m:Nat)),some (.int (c / 4)),some (.int (many:Nat)),some (.list (dg.map .int)),some (.list (([0] :: q).map dR)),some (.list (cC.map .int)),some (.int (pos:Nat)),z]=some (jb (cC.map .int)) from rfl,Option.bind_some,if_pos (by rw [nM,List.length_map]; omega)]
     rw [ef] at Xs
     exact Xs
    obtain ⟨r1,Xu,CW⟩:=comp
    have slice:∃ r:List Int,r.Sublist cC /\ jq (gB (g2 vn (g2 fb (ae 0) (gC (.int (4)))) (gC (.int (1))))) (aS 8 (bQ (CJ (ae 6) (lu (g2 bu (ae 4) (g2 fb (ae 7) (ae 3)))) (lu (fI oA (aa (gC (.int (0))) (aa (g2 dB (fI e9 (aa (ae 6) ai)) (g2 bu (ae 4) (g2 fb (g2 bp (ae 7) (gC (.int (1)))) (ae 3)))) ai))))))) cE
      [some (.int c),some (.int (m:Nat)),some (.int (c / 4)),some (.int (many:Nat)),some (.list (dg.map .int)),some (.list (([0] :: q).map dR)),some (.list (cC.map .int)),some (.int ((pos:Nat) + (cC.map PyData.int).length)),some (.list (r1.map .int))]
      =some (.nx [some (.int c),some (.int (m:Nat)),some (.int (c / 4)),some (.int (many:Nat)),some (.list (dg.map .int)),some (.list (([0] :: q).map dR)),some (.list (cC.map .int)),some (.int ((pos:Nat) + (cC.map PyData.int).length)),some (.list (r.map .int))]):=by
     obtain ⟨y1,_,Zy⟩:=yM (l:=dg) (i:=((pos:Nat) + (cC.map PyData.int).length:Int) % (many:Nat)) (Int.emod_nonneg _ (Int.ne_of_gt DV)) (by rw [QO]; exact Int.emod_lt_of_pos _ DV)
     obtain ⟨y2,_,Zz⟩:=yM (l:=dg) (i:=((pos:Nat) + (cC.map PyData.int).length + 1:Int) % (many:Nat)) (Int.emod_nonneg _ (Int.ne_of_gt DV)) (by rw [QO]; exact Int.emod_lt_of_pos _ DV)
     have hc:gB (g2 vn (g2 fb (ae 0) (gC (.int (4)))) (gC (.int (1)))) [some (.int c),some (.int (m:Nat)),some (.int (c / 4)),some (.int (many:Nat)),some (.list (dg.map .int)),some (.list (([0] :: q).map dR)),some (.list (cC.map .int)),some (.int ((pos:Nat) + (cC.map PyData.int).length)),some (.list (r1.map .int))]=some (decide (1 < c % 4)):=
      dG (ak (ak rfl rfl (gm (by decide))) rfl rfl)
     by_cases h:1 < c % 4
     ·obtain ⟨r2,ZA,kA⟩:=DU PyData.int cC (some y1) (some (if ((cC.map PyData.int).length:Int) - y2 > 0 then ((cC.map PyData.int).length:Int) - y2 else 0))
      refine ⟨r2,kA,oH true (by rw [hc,decide_eq_true h]) (fun _=>aP (bP ?_)) (fun z=>nomatch z)⟩
      have f1:lu (g2 bu (ae 4) (g2 fb (ae 7) (ae 3))) [some (.int c),some (.int (m:Nat)),some (.int (c / 4)),some (.int (many:Nat)),some (.list (dg.map .int)),some (.list (([0] :: q).map dR)),some (.list (cC.map .int)),some (.int ((pos:Nat) + (cC.map PyData.int).length)),some (.list (r1.map .int))]=some (some y1):=by
       exact part_of (ak rfl (ak rfl rfl (gm DV)) Zy)
      have f2:lu (fI oA (aa (gC (.int (0))) (aa (g2 dB (fI e9 (aa (ae 6) ai)) (g2 bu (ae 4) (g2 fb (g2 bp (ae 7) (gC (.int (1)))) (ae 3)))) ai))) [some (.int c),some (.int (m:Nat)),some (.int (c / 4)),some (.int (many:Nat)),some (.list (dg.map .int)),some (.list (([0] :: q).map dR)),some (.list (cC.map .int)),some (.int ((pos:Nat) + (cC.map PyData.int).length)),some (.list (r1.map .int))]
        =some (some (if ((cC.map PyData.int).length:Int) - y2 > 0 then ((cC.map PyData.int).length:Int) - y2 else 0)):=by
       have g:g2 dB (fI e9 (aa (ae 6) ai)) (g2 bu (ae 4) (g2 fb (g2 bp (ae 7) (gC (.int (1)))) (ae 3))) [some (.int c),some (.int (m:Nat)),some (.int (c / 4)),some (.int (many:Nat)),some (.list (dg.map .int)),some (.list (([0] :: q).map dR)),some (.list (cC.map .int)),some (.int ((pos:Nat) + (cC.map PyData.int).length)),some (.list (r1.map .int))]=some (.int (((cC.map PyData.int).length:Int) - y2)):=
        ak rfl (ak rfl (ak (ak rfl rfl rfl) rfl (gm DV)) Zz) rfl
       exact part_of (sF (cons_of rfl (cons_of g rfl)) rfl)
      unfold CJ
      rw [f1,f2]
      show some (cutD (cC.map .int) _ _)=_
      rw [ZA]
     ·exact ⟨r1,CW,oH false (by rw [hc,decide_eq_false h]) (fun z=>nomatch z) (fun _=>rfl)⟩
    obtain ⟨r,hs,OR⟩:=slice
    have ZC:wy r:=hr.sublist hs
    have E7:r.length<=25:=by have:=hs.length_le; omega
    have Xv:∀ x∈r,0<=x /\ x<=(q.length:Int) + 1:=fun x hx=>hb x (hs.subset hx)
    have e6:=yL (a:=ae 8) (b:=ae 8) (δ:=[some (.int c),some (.int (m:Nat)),some (.int (c / 4)),some (.int (many:Nat)),some (.list (dg.map .int)),some (.list (([0] :: q).map dR)),some (.list (cC.map .int)),some (.int ((pos:Nat) + (cC.map PyData.int).length)),some (.list (r.map .int))]) (r:=r) rfl (.inl rfl) (by omega)
    by_cases OS:r=[]
    ·subst OS
     refine ⟨[some (.int c),some (.int (m:Nat)),some (.int (c / 4)),some (.int (many:Nat)),some (.list (dg.map .int)),some (.list (([0] :: q).map dR)),some (.list (([]:List Int).map .int)),some (.int (((pos + cC.length:Nat):Nat):Int)),some (.list (([]:List Int).map .int))],2 * (m - q.length),?_,by rw [if_neg iJ]; omega,q,[],pos + cC.length,_,rfl,hq,OQ,.inl rfl,.nil,by simp,k9,by simp⟩
     refine bV _ (aP (bP Xu)) (bV _ (aP (ak rfl rfl rfl)) (bV _ OR (bV _ (aP (bP e6)) ?_)))
     refine (oH false rfl (fun z=>nomatch z) fun _=>rfl).trans ?_
     rw [List.length_map]
     push_cast
     rfl
    ·have ZD:Nx (lst [0] q) r:=⟨OS,ZC,fun x hx=>nO ▸ hs.subset hx⟩
     refine ⟨[some (.int c),some (.int (m:Nat)),some (.int (c / 4)),some (.int (many:Nat)),some (.list (dg.map .int)),some (.list (([0] :: (q ++ [r])).map dR)),some (.list ((led r).map .int)),some (.int (((pos + cC.length:Nat):Nat):Int)),some (.list (r.map .int))],2 * (m - (q ++ [r]).length) + (if led r=[] then 0 else 1),?_,?_,q ++ [r],led r,pos + cC.length,_,rfl,wz hq ZD,by simp; omega,.inr (by rw [lst_snoc]),jd,?_,?_,rfl⟩
     ·refine bV _ (aP (bP Xu)) (bV _ (aP (ak rfl rfl rfl)) (bV _ OR (bV _ (aP (bP e6)) ?_)))
      have DX:(0:Int) < ((r.map PyData.int).length:Int):=by
       have:=List.length_pos_iff.mpr OS
       simp; omega
      refine (oH true (dG (b:=true) (show _=_ from congrArg (fun b=>some (PyData.bool b)) (decide_eq_true DX))) (fun _=>ma (ds:=([0] :: q).map dR) (d:=dR r) rfl rfl (by simp; omega)) fun z=>nomatch z).trans ?_
      rw [List.length_map,<- List.cons_append,List.map_append]
      push_cast
      rfl
     ·have hl:led r≠[]:=fun e=>by
       obtain ⟨x,hx⟩:=List.exists_mem_of_ne_nil r OS
       have:=kO.mpr (.inl hx)
       rw [e] at this; simp at this
      rw [if_neg hl,if_neg iJ]
      simp
      omega
     ·intro x hx
      rcases kO.mp hx with h | h
      ·have:=Xv x h; simp; omega
      ·have:=Xv _ h; simp; omega
     ·intro s jY
      rcases List.mem_append.mp jY with h | h
      ·exact k9 s h
      ·rw [List.mem_singleton.mp h]; exact E7
 ·rintro δ' ⟨q,x,y,z,rfl,hq,OQ,k9⟩
  refine ret (dn ([0] :: q)) rfl (.mk rfl ⟨[0] :: q,rfl,⟨q,rfl,hq⟩,by simpa using OQ,fun r hr=>?_⟩)
  rcases List.mem_cons.mp hr with h | h
  ·rw [h]; decide
  ·exact k9 r h
theorem GV {i:Int} {T:List Int}:J0 (.int i) (.list (T.map .int))=some (.bool (decide (i∈T))):=by
 have hf:(ka (.int i) && (T.map PyData.int).all ka)=true:=by simp [ka]
 show (if (ka (.int i) && (T.map PyData.int).all ka)=true then some (PyData.bool ((T.map PyData.int).any fun z=>JZ z (.int i))) else none)=_
 rw [if_pos hf,List.any_map]
 congr 2
 rw [Bool.eq_iff_iff,List.any_eq_true,decide_eq_true_eq]
 constructor
 ·rintro ⟨x,hx,e⟩
  rw [Function.comp,zN,decide_eq_true_eq] at e
  rw [<- e]; exact hx
 ·intro h
  exact ⟨i,h,by rw [Function.comp,zN]; simp⟩
theorem DY {i:Int} {T:List Int}:J0 (.int i) (dR T)=some (.bool (decide (i∈T))):=GV
theorem dd {a:Int} (b:Int) (h:0 < b) (h2:b.natAbs < 2 ^ 70):g4 (.int a) (.int b)=some (.int (a / b)):=oG h (bD (dq h2) (by decide))
theorem DZ {a b:DS->Option D} {δ:DS} {x y:Bool} (h1:a δ=some (.bool x)) (h2:x=true->b δ=some (.bool y)):oy a b δ=some (.bool (x && y)):=by
 unfold oy
 rw [dG h1,Option.bind_some]
 cases x with
 | true=>rw [if_pos rfl,h2 rfl]; rfl
 | false=>rfl
theorem D0 {p:List (List Int)} {i:Int} (h0:0<=i) (h1:i < (p.length:Int)):bu (dn p) (.int i)=some (dR (p.getD i.toNat [])):=by
 obtain ⟨k,rfl⟩:∃ k:Nat,i=(k:Int):=⟨i.toNat,by omega⟩
 have hk:k < p.length:=by omega
 refine h9 ?_
 rw [List.getElem?_map,Int.toNat_natCast,List.getD_eq_getElem?_getD,List.getElem?_eq_getElem hk]
 rfl
abbrev WF:=Int->Int->Int
def dC (c:Int×Int):D:=.tuple [.int c.1,.int c.2]
def cX (F:WF) (c:Int×Int):WF:=fun x y=>F x y + (if x=c.1 + 1 /\ y=c.2 then F c.1 c.2 else 0) + (if x=c.1 /\ y=c.2 + 1 then F c.1 c.2 else 0)
def jW (c:Int×Int):WF:=fun x y=>if x=c.1 /\ y=c.2 then 1 else 0
def jX (n:Nat) (r:List Int):List (Int×Int):=r.map fun b=>(b,(n:Int) - b)
def bB:Nat->List (List Int)->List (Int×Int)
 | _,[]=>[]
 | n,r :: p=>jX n r ++ bB (n + 1) p
theorem iz (r:List Int):∀ (p:List (List Int)) (n:Nat),bB n (p ++ [r])=bB n p ++ jX (n + p.length) r
 | [],n=>by simp [bB]
 | s :: p,n=>by
   rw [List.cons_append,bB,bB,iz r p (n + 1),List.append_assoc,List.length_cons,show n + 1 + p.length=n + (p.length + 1) by omega]
theorem qu:∀ (p:List (List Int)) (n:Nat),(∀ r∈p,r.length<=25)->(bB n p).length<=25 * p.length
 | [],_,_=>by simp [bB]
 | r :: p,n,h=>by
   have h1:=qu p (n + 1) fun s hs=>h s (List.mem_cons_of_mem _ hs)
   have h2:=h r List.mem_cons_self
   rw [bB,List.length_append,List.length_cons,jX,List.length_map]
   omega
def lv (A:Int->Int) (r:List Int) (b:Int):Int:=(if b - 1∈r then A (b - 1) else 0) + (if b∈r then A b else 0)
theorem D1 (A:Int->Int) (b:Int):lv A [] b=0:=by simp [lv]
theorem D2 {A:Int->Int} {r s:List Int} (h:∀ x,x∈r↔x∈s) (b:Int):lv A r b=lv A s b:=by simp only [lv,h]
def WW:(Int->Int)->List (List Int)->Nat->Int->Int
 | A,_,0,b=>A b
 | _,[],_ + 1,_=>0
 | A,r :: p,k + 1,b=>WW (lv A r) p k b
theorem WW_0 (A:Int->Int) (p:List (List Int)):WW A p 0=A:=by funext b; cases p <;> rfl
theorem jC:∀ (p:List (List Int)) (A:Int->Int) (k:Nat) (b:Int),WW A p (k + 1) b=lv (WW A p k) (p.getD k []) b
 | [],A,k,b=>by
   rw [show ([]:List (List Int)).getD k []=[] from rfl,D1]; rfl
 | r :: p,A,0,b=>by
   show WW (lv A r) p 0 b=lv (WW A (r :: p) 0) r b
   rw [WW_0,WW_0]
 | r :: p,A,k + 1,b=>by
   show WW (lv A r) p (k + 1) b=lv (WW (lv A r) p k) (p.getD k []) b
   exact jC p (lv A r) k b
structure NY (n:Nat) (F:WF) (A B:Int->Int):Prop where
 OM:∀ x y:Int,x + y=(n:Int)->F x y=A x
 Xw:∀ x y:Int,x + y=(n:Int) + 1->F x y=B x
 up:∀ x y:Int,(n:Int) + 1 < x + y->F x y=0
theorem D3 {n:Nat} {F:WF} {A:Int->Int} {bs:List Int} {b:Int} (h:NY n F A (lv A bs)) (hb:b∉bs):NY n (cX F (b,(n:Int) - b)) A (lv A (b :: bs)) /\ ∀ x y:Int,x + y < (n:Int)->cX F (b,(n:Int) - b) x y=F x y:=by
 have e:∀ x y,cX F (b,(n:Int) - b) x y=F x y + (if x=b + 1 /\ y=(n:Int) - b then A b else 0) + (if x=b /\ y=(n:Int) - b + 1 then A b else 0):=by
  intro x y
  unfold cX
  rw [h.OM b ((n:Int) - b) (by omega)]
 refine ⟨⟨?_,?_,?_⟩,?_⟩
 ·intro x y BQ
  rw [e,if_neg (by omega),if_neg (by omega),h.OM x y BQ]; omega
 ·intro x y BQ
  rw [e,h.Xw x y BQ]
  have e1:(x=b + 1 /\ y=(n:Int) - b)↔x - 1=b:=by constructor <;> intro z <;> omega
  have e2:(x=b /\ y=(n:Int) - b + 1)↔x=b:=by constructor <;> intro z <;> omega
  simp only [e1,e2,lv,List.mem_cons]
  by_cases c1:x - 1=b
  ·have c2:¬ x=b:=by omega
   have c3:x - 1∉bs:=by rw [c1]; exact hb
   simp only [c1,c2,true_or,false_or,if_true,if_false,if_neg hb]
   omega
  ·by_cases c2:x=b
   ·subst c2
    simp only [c1,true_or,false_or,if_true,if_false,if_neg hb]
    omega
   ·simp only [c1,c2,false_or,if_false]
    omega
 ·intro x y BQ
  rw [e,if_neg (by omega),if_neg (by omega),h.up x y BQ]; rfl
 ·intro x y BQ
  rw [e,if_neg (by omega),if_neg (by omega)]; omega
theorem Ah {n:Nat} {A:Int->Int}:∀ (r bs:List Int) (F:WF),NY n F A (lv A bs)->(∀ x∈r,x∉bs)->r.Nodup->NY n ((jX n r).foldl cX F) A (lv A (r ++ bs)) /\ ∀ x y:Int,x + y < (n:Int)->(jX n r).foldl cX F x y=F x y
 | [],bs,F,h,_,_=>⟨h,fun _ _ _=>rfl⟩
 | b :: r,bs,F,h,hd,nd=>by
   obtain ⟨h1,h2⟩:=D3 h (hd b List.mem_cons_self)
   obtain ⟨n1,n2⟩:=List.nodup_cons.mp nd
   obtain ⟨h3,h4⟩:=Ah r (b :: bs) _ h1 (fun x hx z=>by
    rcases List.mem_cons.mp z with q | q
    ·subst q; exact n1 hx
    ·exact hd x (List.mem_cons_of_mem _ hx) q) n2
   refine ⟨?_,fun x y BQ=>(h4 x y BQ).trans (h2 x y BQ)⟩
   have:lv A (r ++ b :: bs)=lv A ((b :: r) ++ bs):=by
    funext x
    exact D2 (fun z=>by simp only [List.mem_append,List.mem_cons,List.cons_append]; constructor <;> rintro (q | q | q) <;> simp [q]) x
   rw [<- this]
   exact h3
theorem qv:∀ (p:List (List Int)) (n:Nat) (A:Int->Int) (F:WF),(∀ r∈p,r.Nodup)->(∀ x y:Int,x + y=(n:Int)->F x y=A x)->(∀ x y:Int,(n:Int) < x + y->F x y=0)->
  ∀ x y:Int,(x + y < (n:Int)->(bB n p).foldl cX F x y=F x y) /\ ∀ k:Nat,x + y=(n:Int) + (k:Int)->(bB n p).foldl cX F x y=WW A p k x
 | [],n,A,F,_,h0,h1,x,y=>by
   refine ⟨fun _=>rfl,fun k hk=>?_⟩
   show F x y=_
   cases k with
   | zero=>rw [WW_0]; exact h0 x y (by omega)
   | succ k=>exact h1 x y (by omega)
 | r :: p,n,A,F,hn,h0,h1,x,y=>by
   have L0:NY n F A (lv A []):=⟨h0,fun x y q=>by rw [D1]; exact h1 x y (by omega),fun x y q=>h1 x y (by omega)⟩
   obtain ⟨L1,K1⟩:=Ah r [] F L0 (fun x _ z=>by simp at z) (hn r List.mem_cons_self)
   rw [List.append_nil] at L1
   have ih:=qv p (n + 1) (lv A r) ((jX n r).foldl cX F) (fun s hs=>hn s (List.mem_cons_of_mem _ hs)) (fun x y q=>L1.Xw x y (by push_cast at q; omega)) (fun x y q=>L1.up x y (by push_cast at q; omega)) x y
   rw [bB,List.foldl_append]
   refine ⟨fun q=>(ih.1 (by push_cast; omega)).trans (K1 x y q),fun k hk=>?_⟩
   cases k with
   | zero=>
     rw [WW_0,ih.1 (by push_cast; omega)]
     exact L1.OM x y (by omega)
   | succ k=>exact ih.2 k (by push_cast; push_cast at hk; omega)
theorem GW {l:List Int} (h:wy l):l.Nodup:=h.imp fun z e=>by omega
theorem Ai:∀ {q:List (List Int)} {r:List Int} {n:Nat},(∀ x∈r,0<=x /\ x<=(n:Int))->IG r q->(∀ s∈q,s.Nodup) /\ ∀ k,∀ x∈q.getD k [],0<=x /\ x<=((n + 1 + k:Nat):Int)
 | [],_,_,_,_=>⟨by simp,fun k x hx=>by simp at hx⟩
 | s :: q,r,n,hr,hc=>by
   have hs:∀ x∈s,0<=x /\ x<=((n + 1:Nat):Int):=fun x hx=>by
    rcases kO.mp (hc.1.2.2 x hx) with h | h
    ·have:=hr x h; omega
    ·have:=hr _ h; omega
   obtain ⟨i1,i2⟩:=Ai (n:=n + 1) hs hc.2
   refine ⟨fun t ht=>?_,fun k x hx=>?_⟩
   ·rcases List.mem_cons.mp ht with z | z
    ·rw [z]; exact GW hc.1.2.1
    ·exact i1 t z
   ·cases k with
    | zero=>exact hs x (by simpa using hx)
    | succ k=>
      have:=i2 k x (by simpa using hx)
      omega
theorem pe {p:List (List Int)} (h:Pl p):(∀ s∈p,s.Nodup) /\ ∀ k,∀ x∈p.getD k [],0<=x /\ x<=(k:Int):=by
 obtain ⟨q,rfl,hc⟩:=h.ex
 obtain ⟨i1,i2⟩:=Ai (q:=q) (r:=[0]) (n:=0) (by simp) hc
 refine ⟨fun s hs=>?_,fun k x hx=>?_⟩
 ·rcases List.mem_cons.mp hs with z | z
  ·rw [z]; simp
  ·exact i1 s z
 ·cases k with
  | zero=>simp at hx; subst hx; simp
  | succ k=>
    have:=i2 k x (by simpa using hx)
    omega
structure Dt (kds:List (D×D)) (F:WF):Prop where
 fn:AV kds=false
 QP:∀ b g:Int,(cw kds [.inl b,.inl g]).getD (.int 0)=.int (F b g)
instance {kds:List (D×D)} {F:WF}:CoeFun (Dt kds F) (fun _=>∀ b g:Int,(cw kds [.inl b,.inl g]).getD (.int 0)=.int (F b g)):=⟨Dt.QP⟩
theorem GX {kds:List (D×D)} {k:List Key} {d:D} (h:AV kds=false):AV (gU kds k d)=false:=by
 unfold gU
 split
 ·cases kds with
  | nil=>rfl
  | cons p r=>
    obtain ⟨p1,p2⟩:=p
    rw [List.map_cons]
    split <;> (cases p1 with
     | list l=>
       cases l with
       | nil=>cases h
       | cons _ _=>rfl
     | _=>rfl)
 ·cases kds with
  | nil=>rfl
  | cons p r=>
    obtain ⟨p1,p2⟩:=p
    cases p1 with
    | list l=>
      cases l with
      | nil=>cases h
      | cons _ _=>rfl
    | _=>rfl
theorem kn {gd gk ge:DS->Option D} {δ:DS} {kds:List (D×D)} {c:Int×Int} {z:D} (h1:gd δ=some (.dict kds)) (h2:gk δ=some (dC c)) (h3:ge δ=some z) (hf:AV kds=false:=by first | assumption | exact Dt.fn (by assumption)):lS gd gk ge δ=some ((cw kds [.inl c.1,.inl c.2]).getD z):=by
 unfold lS; rw [h1,h2,h3]
 show (if AV kds=true then none else _)=_
 rw [hf]; rfl
theorem ue {gd gk:DS->Option D} {δ:DS} {kds:List (D×D)} {c:Int×Int} (h1:gd δ=some (.dict kds)) (h2:gk δ=some (dC c)) (hf:AV kds=false:=by first | assumption | exact Dt.fn (by assumption)):p5 gd gk δ=cw kds [.inl c.1,.inl c.2]:=by
 unfold p5; rw [h1,h2]
 show (if AV kds=true then none else _)=_
 rw [hf]; rfl
theorem pf {i:Nat} {gk ge:DS->Option D} {δ:DS} {kds:List (D×D)} {c:Int×Int} {d:D} (h1:ae i δ=some (.dict kds)) (h2:gk δ=some (dC c)) (h3:ge δ=some d) (h4:kds.length < 100000):sr i gk ge δ=some (.nx (δ.set i (some (.dict (gU kds [.inl c.1,.inl c.2] d))))):=by
 unfold sr; rw [h1,h2,h3]
 show (if kds.length < 100000 then _ else _)=_
 rw [if_pos h4]
theorem D4 {b g x y:Int}:(([.inl b,.inl g]:List Key)=[.inl x,.inl y])↔b=x /\ g=y:=by simp
theorem NZ {t:D->DS->Option DS} {b:DS->Option Res} {d1 d2:D} {δ:DS} (dW OP Xx Xy:DS) (h1:t d1 δ=some dW) (h2:b dW=some (.nx OP)) (h3:t d2 OP=some Xx) (h4:b Xx=some (.nx Xy)):jV t b [d1,d2] δ=some (.nx Xy):=by
 simp only [jV,h1,h2,h3,h4,Option.bind_some]
theorem Dt.put {kds:List (D×D)} {F:WF} (h:Dt kds F) (x y v:Int):Dt (gU kds [.inl x,.inl y] (.int v)) (fun b g=>if b=x /\ g=y then v else F b g):=by
 refine ⟨GX h.fn,fun b g=>?_⟩
 show _=PyData.int (if b=x /\ g=y then v else F b g)
 rw [Bk]
 by_cases e:b=x /\ g=y
 ·rw [if_pos (D4.mpr e),if_pos e]; rfl
 ·rw [if_neg (fun z=>e (D4.mp z)),if_neg e]; exact h b g
theorem yO {i:Nat} {g:DS->Option (List D)} {δ:DS} {ds zs:List D} (h1:ae i δ=some (.list ds)) (h2:g δ=some zs) (h3:ds.length + zs.length<=100000):A5 i g δ=some (.nx (δ.set i (some (.list (ds ++ zs))))):=by
 unfold A5
 rw [h1,h2]
 show (if ds.length + zs.length<=100000 then _ else _)=_
 rw [if_pos h3]
theorem GY (p:List (List Int)):jb (p.map dR)=p.zipIdx.map fun x=>.tuple [.int (x.2:Nat),dR x.1]:=by
 unfold jb
 rw [List.zipIdx_map,List.map_map]
 rfl
theorem yP {p:List (List Int)} (hl:p.length<=24) (k9:∀ r∈p,r.length<=25):gz [dn p]=some ((bB 0 p).map dC):=by
 rw [yD]
 refine bb ?_
 refine aM [some (dn p),some (.list []),none,none] rfl ?_
 refine gN (fun x:List Int×Nat=>PyData.tuple [.int (x.2:Nat),dR x.1]) p.zipIdx (fun i δ=>∃ a b,δ=[some (dn p),some (.list ((bB 0 (p.take i)).map dC)),a,b]) ?_ ⟨none,none,rfl⟩ ?_ ?_
 ·show some (jb (p.map dR))=_
  rw [GY]
 ·rintro i ⟨r,n⟩ δ hi ⟨a,b,rfl⟩
  rw [List.getElem?_zipIdx] at hi
  cases er:p[i]? with
  | none=>rw [er] at hi; cases hi
  | some r'=>
    rw [er] at hi
    simp only [Option.map_some,Nat.zero_add,Option.some.injEq,Prod.mk.injEq] at hi
    obtain ⟨rfl,rfl⟩:=hi
    have Iy:=(List.getElem?_eq_some_iff.mp er).1
    have hr:=k9 r' (List.mem_of_getElem? er)
    have ht:p.take (i + 1)=p.take i ++ [r']:=by
     rw [List.take_add_one,er]; rfl
    have GZ:(p.take i).length=i:=by rw [List.length_take]; omega
    have hc0:=qu (p.take i) 0 fun s hs=>k9 s (List.mem_of_mem_take hs)
    refine ⟨_,[some (dn p),some (.list ((bB 0 (p.take (i + 1))).map dC)),some (.int (i:Nat)),some (dR r')],rfl,?_,_,_,rfl⟩
    have hc:fU (a9 (ae 3)) [2] (aW (aa (ae 0) (aa (g2 dB (ae 1) (ae 0)) ai))) [some (dn p),some (.list ((bB 0 (p.take i)).map dC)),some (.int (i:Nat)),some (dR r')]=some ((r'.map fun b=>(b,(i:Int) - b)).map dC):=
     kK PyData.int dC (fun b=>(b,(i:Int) - b)) r' rfl (by omega) fun x _=>rfl
    refine (yO rfl hc (by simp only [List.length_map]; omega)).trans ?_
    rw [ht,iz,GZ,Nat.zero_add,List.map_append]
    rfl
 ·rintro δ' ⟨a,b,rfl⟩
  refine ret (.list ((bB 0 p).map dC)) ?_ (.mk rfl rfl)
  rw [List.length_zipIdx,List.take_length]
  rfl
theorem D5 {a b:Str} (ha:PyData.strOk a=true) (hb:PyData.strOk b=true) {c:Bool} (hc:(a == b)=c):zF (.str a) (.str b)=some (.bool c):=by
 unfold zF
 simp [SeqAt.shaped,PyData.canLay0,PyData.depth,PyData.eqv,ha,hb,hc]
theorem BE (c:Int×Int):fX [dC c,.str "b"]=some (dC (c.1 + 1,c.2)):=by
 rw [Af]
 exact bb (z9 true (dG (b:=true) (ak rfl rfl (D5 (by decide +kernel) (by decide +kernel) (by decide +kernel)))) (fun _=>GD (dC (c.1 + 1,c.2)) rfl (.mk rfl rfl)) fun z=>nomatch z)
theorem BF (c:Int×Int):fX [dC c,.str "g"]=some (dC (c.1,c.2 + 1)):=by
 rw [Af]
 exact bb (nX (dG (b:=false) (ak rfl rfl (D5 (by decide +kernel) (by decide +kernel) (by decide +kernel)))) (ret (dC (c.1,c.2 + 1)) rfl (.mk rfl rfl)))
theorem wC {p:List (List Int)} (hl:p.length<=24) (k9:∀ r∈p,r.length<=25) (c:Int×Int):∃ kds,fK [dn p,dC c]=some (.dict kds) /\ Dt kds ((bB 0 p).foldl cX (jW c)):=by
 have nO:=qu p 0 k9
 have main:d8 (fK [dn p,dC c]) fun d=>∃ kds,d=.dict kds /\ Dt kds ((bB 0 p).foldl cX (jW c)):=by
  rw [wj]
  refine aM [some (dn p),some (dC c),some (.dict [(dC c,.int 1)]),none,none,none] rfl ?_
  refine gN dC (bB 0 p) (fun i δ=>∃ kds a b e,δ=[some (dn p),some (dC c),some (.dict kds),a,b,e] /\ Dt kds (((bB 0 p).take i).foldl cX (jW c)) /\ kds.length<=1 + 2 * i) ?_ ⟨_,_,_,_,rfl,?_,by simp⟩ ?_ ?_
  ·have ec:bQ (dU gz 1 (aa (ae 0) ai)) [some (dn p),some (dC c),some (.dict [(dC c,.int 1)]),none,none,none]=some (.list ((bB 0 p).map dC)):=bP (gX (cons_of rfl rfl) rfl (yP hl k9))
   unfold a9
   rw [ec]
   rfl
  ·refine ⟨rfl,fun b g=>?_⟩
   have:gU [] [.inl c.1,.inl c.2] (.int 1)=[(dC c,.int 1)]:=rfl
   rw [<- this]
   exact (Dt.put (kds:=[]) (F:=fun _ _=>0) ⟨rfl,fun b g=>rfl⟩ c.1 c.2 1) b g
  ·rintro i k δ hi ⟨kds,a,b,e,rfl,hd,hlen⟩
   have Iy:=(List.getElem?_eq_some_iff.mp hi).1
   obtain ⟨F,hF⟩:∃ F,F=((bB 0 p).take i).foldl cX (jW c):=⟨_,rfl⟩
   rw [<- hF] at hd
   have D6:((bB 0 p).take (i + 1)).foldl cX (jW c)=cX F k:=by
    rw [List.take_add_one,hi,List.foldl_append,<- hF]; rfl
   obtain ⟨k1,A8⟩:∃ k1,k1=gU kds [.inl (k.1 + 1),.inl k.2] (.int (F (k.1 + 1) k.2 + F k.1 k.2)):=⟨_,rfl⟩
   have C1:=hd.put (k.1 + 1) k.2 (F (k.1 + 1) k.2 + F k.1 k.2)
   rw [<- A8] at C1
   have hd2:=C1.put k.1 (k.2 + 1) (F k.1 (k.2 + 1) + F k.1 k.2)
   have l1:k1.length<=kds.length + 1:=by rw [A8]; exact kI _ _ _
   have l2:=kI k1 [.inl k.1,.inl (k.2 + 1)] (.int (F k.1 (k.2 + 1) + F k.1 k.2))
   refine ⟨_,[some (dn p),some (dC c),some (.dict (gU k1 [.inl k.1,.inl (k.2 + 1)] (.int (F k.1 (k.2 + 1) + F k.1 k.2)))),some (dC k),some (.int (F k.1 k.2)),some (dC (k.1,k.2 + 1))],rfl,?_,_,_,_,_,rfl,?_,by omega⟩
   ·refine bV [some (dn p),some (dC c),some (.dict kds),some (dC k),some (.int (F k.1 k.2)),e] (aP ((kn rfl rfl rfl).trans (congrArg some (hd k.1 k.2)))) ?_
    unfold d3
    have hit:a9 (aW (aa (aK fX 2 (aa (ae 3) (aa (gC (.str "b")) ai))) (aa (aK fX 2 (aa (ae 3) (aa (gC (.str "g")) ai))) ai))) [some (dn p),some (dC c),some (.dict kds),some (dC k),some (.int (F k.1 k.2)),e]=some [dC (k.1 + 1,k.2),dC (k.1,k.2 + 1)]:=by
     have e1:aK fX 2 (aa (ae 3) (aa (gC (.str "b")) ai)) [some (dn p),some (dC c),some (.dict kds),some (dC k),some (.int (F k.1 k.2)),e]=some (dC (k.1 + 1,k.2)):=call_of (cons_of rfl (cons_of rfl rfl)) rfl (BE k)
     have e2:aK fX 2 (aa (ae 3) (aa (gC (.str "g")) ai)) [some (dn p),some (dC c),some (.dict kds),some (dC k),some (.int (F k.1 k.2)),e]=some (dC (k.1,k.2 + 1)):=call_of (cons_of rfl (cons_of rfl rfl)) rfl (BF k)
     unfold a9 aW
     rw [cons_of e1 (cons_of e2 rfl)]
     rfl
    rw [hit,Option.bind_some]
    refine NZ [some (dn p),some (dC c),some (.dict kds),some (dC k),some (.int (F k.1 k.2)),some (dC (k.1 + 1,k.2))] [some (dn p),some (dC c),some (.dict k1),some (dC k),some (.int (F k.1 k.2)),some (dC (k.1 + 1,k.2))] [some (dn p),some (dC c),some (.dict k1),some (dC k),some (.int (F k.1 k.2)),some (dC (k.1,k.2 + 1))] _ rfl ?_ rfl ?_
    ·refine (pf (c:=(k.1 + 1,k.2)) rfl rfl (ak ((kn (c:=(k.1 + 1,k.2)) rfl rfl rfl).trans (congrArg some (hd (k.1 + 1) k.2))) rfl rfl) (by omega)).trans ?_
     rw [A8]; rfl
    ·have h5:(cw k1 [.inl k.1,.inl (k.2 + 1)]).getD (.int 0)=.int (F k.1 (k.2 + 1)):=by
      have:=C1 k.1 (k.2 + 1)
      rw [this]
      show PyData.int (if k.1=k.1 + 1 /\ k.2 + 1=k.2 then _ else _)=_
      rw [if_neg (by omega)]
     exact pf (c:=(k.1,k.2 + 1)) rfl rfl (ak ((kn (c:=(k.1,k.2 + 1)) rfl rfl rfl).trans (congrArg some h5)) rfl rfl) (by omega)
   ·rw [D6]
    refine ⟨hd2.fn,fun x y=>?_⟩
    rw [hd2 x y]
    congr 1
    show (if x=k.1 /\ y=k.2 + 1 then _ else if x=k.1 + 1 /\ y=k.2 then _ else F x y)=F x y + _ + _
    by_cases c1:x=k.1 /\ y=k.2 + 1
    ·rw [if_pos c1,if_pos c1,if_neg (by omega),c1.1,c1.2]; omega
    ·rw [if_neg c1,if_neg c1]
     by_cases c2:x=k.1 + 1 /\ y=k.2
     ·rw [if_pos c2,if_pos c2,c2.1,c2.2]; omega
     ·rw [if_neg c2,if_neg c2]; omega
  ·rintro δ' ⟨kds,a,b,e,rfl,hd,_⟩
   rw [List.take_length] at hd
   exact ret (.dict kds) rfl (.mk rfl ⟨kds,rfl,hd⟩)
 obtain ⟨_,e,kds,rfl,hd⟩:=main
 exact ⟨kds,e,hd⟩
def A0:Int->Int:=fun b=>if b=0 then 1 else 0
theorem D7 {p:List (List Int)} (h:Pl p) {x y:Int} {k:Nat} (e:x + y=(k:Int)):(bB 0 p).foldl cX (jW (0,0)) x y=WW A0 p k x:=by
 refine (qv p 0 A0 (jW (0,0)) (pe h).1 ?_ ?_ x y).2 k (by push_cast; omega)
 ·intro x y q
  unfold jW A0
  by_cases c:x=0
  ·rw [if_pos ⟨c,by push_cast at q; show y=0; omega⟩,if_pos c]
  ·rw [if_neg (fun z=>c z.1),if_neg c]
 ·intro x y q
  unfold jW
  rw [if_neg]
  rintro ⟨z1,z2⟩
  have ZE:x=0:=z1
  have ZF:y=0:=z2
  push_cast at q
  omega
theorem yQ {α β:Type} (enc:α->D) (jx:β->D) (h:α->β) (P:α->Bool) {f:D->Option (Option D)}:∀ l:List α,(∀ a∈l,f (enc a)=some (if P a=true then some (jx (h a)) else none))->lQ f (l.map enc)=some (((l.filter P).map h).map jx)
 | [],_=>rfl
 | a :: l,q=>by
   have ih:=yQ enc jx h P l fun b hb=>q b (List.mem_cons_of_mem _ hb)
   rw [List.map_cons,lQ,q a List.mem_cons_self,Option.bind_some,ih,Option.bind_some,List.filter_cons]
   cases P a <;> rfl
theorem nh {α β:Type} (enc:α->D) (jx:β->D) (h:α->β) (P:α->Bool) {gi:DS->Option (List D)} {ix:List Nat} {gc:DS->Option Bool} {ge:DS->Option D} {δ:DS} (l:List α) (hi:gi δ=some (l.map enc)) (hl:l.length<=100000)
  (hc:∀ a∈l,gc (some (enc a) :: df ix δ)=some (P a)) (he:∀ a∈l,P a=true->ge (some (enc a) :: df ix δ)=some (jx (h a))):cz gi 1 ix (aL 0) gc ge δ=some (((l.filter P).map h).map jx):=by
 unfold cz
 rw [hi,Option.bind_some,if_pos (by rw [List.length_map]; exact hl)]
 refine yQ enc jx h P l fun a ha=>?_
 show (Option.bind (some (some (enc a) :: df ix δ)) _)=_
 rw [Option.bind_some,hc a ha,Option.bind_some]
 cases q:P a with
 | true=>rw [if_pos rfl,if_pos rfl,he a ha q]; rfl
 | false=>rfl
theorem G0 {f f':D->D->Option D} {a b c:DS->Option D} {δ:DS} {x y w:D} {u v:Bool} (h1:a δ=some x) (h2:b δ=some y) (h3:f x y=some (.bool u)) (h4:c δ=some w) (h5:f' y w=some (.bool v)):nK f f' a b c δ=some (.bool (u && v)):=by
 unfold nK
 rw [h1,h2]
 simp only [Option.bind_some,h3]
 cases u with
 | true=>simp only [h4,Option.bind_some,h5,Bool.true_and]
 | false=>rfl
theorem D8 {r:List Int} (h:r.length < 32):iF [dR r]=some ((led r).map .int):=by
 rw [DQ]
 exact bb (ret (.list ((led r).map .int)) (bP (yL (a:=bQ (vv lJ (aa (ae 0) ai))) (b:=ae 0) (r:=r) rfl (.inr rfl) h)) (.mk rfl rfl))
def G1 (p:List (List Int)) (c:Int×Int):Bool:=(decide (0<=c.1 + c.2) && decide (c.1 + c.2 < (p.length:Int))) && decide (c.1∈p.getD (c.1 + c.2).toNat [])
theorem BG (p:List (List Int)) (c:Int×Int):iy [dn p,dC c]=some (.bool (G1 p c)):=by
 rw [BC]
 refine bb ?_
 refine aM [some (dn p),some (dC c),some (.int (c.1 + c.2))] rfl ?_
 refine ret (.bool (G1 p c)) ?_ (.mk rfl rfl)
 refine DZ (x:=decide (0<=c.1 + c.2) && decide (c.1 + c.2 < (p.length:Int))) ?_ fun h=>?_
 ·have e2:zE (.int (c.1 + c.2)) (.int (((p.map dR).length:Nat):Int))=some (.bool (decide (c.1 + c.2 < (p.length:Int)))):=by
   rw [List.length_map]; rfl
  exact G0 rfl rfl rfl rfl e2
 ·rw [Bool.and_eq_true,decide_eq_true_eq,decide_eq_true_eq] at h
  exact ak rfl (ak rfl rfl (D0 h.1 h.2)) DY
theorem kP:∀ (p:List (List Int)) (n:Nat),(∀ r∈p,r.length<=50)->(bB n p).length<=50 * p.length
 | [],_,_=>by simp [bB]
 | r :: p,n,h=>by
   have h1:=kP p (n + 1) fun s hs=>h s (List.mem_cons_of_mem _ hs)
   have h2:=h r List.mem_cons_self
   rw [bB,List.length_append,List.length_cons,jX,List.length_map]
   omega
theorem D9 (p:List (List Int)):oC (p.map dR)=(p.zipIdx 1).map fun x=>.tuple [.int (x.2:Nat),dR x.1]:=by
 unfold oC
 rw [List.zipIdx_map,List.map_map]
 rfl
theorem Aj (x:Int):∀ l:List Int,(ins x l).length<=l.length + 1
 | []=>by simp [ins]
 | y :: l=>by
   have:=Aj x l
   rw [ins]
   split
   ·simp
   ·split
    ·simp
    ·simp only [List.length_cons]; omega
theorem Ea:∀ l:List Int,(ss l).length<=l.length
 | []=>by simp [ss]
 | x :: l=>by
   have h1:=Ea l
   have h2:=Aj x (ss l)
   rw [ss,List.length_cons]; omega
theorem kQ {r:List Int}:(led r).length<=2 * r.length:=by
 have h:((led r):List Int).length<=(r ++ r.map (· + 1)).length:=Ea _
 rw [List.length_append,List.length_map] at h
 omega
theorem BH {p:List (List Int)} (hl:p.length<=24) (k9:∀ r∈p,r.length<=25):gy [dn p]=some (((0,0) :: bB 1 (p.map led)).map dC):=by
 rw [BD]
 refine bb ?_
 refine aM [some (dn p),some (.list [dC (0,0)]),none,none] rfl ?_
 refine gN (fun x:List Int×Nat=>PyData.tuple [.int (x.2:Nat),dR x.1]) (p.zipIdx 1) (fun i δ=>∃ a b,δ=[some (dn p),some (.list (((0,0) :: bB 1 ((p.take i).map led)).map dC)),a,b]) ?_ ⟨none,none,rfl⟩ ?_ ?_
 ·show some (oC (p.map dR))=_
  rw [D9]
 ·rintro i ⟨r,n⟩ δ hi ⟨a,b,rfl⟩
  rw [List.getElem?_zipIdx] at hi
  cases er:p[i]? with
  | none=>rw [er] at hi; cases hi
  | some r'=>
    rw [er] at hi
    simp only [Option.map_some,Option.some.injEq,Prod.mk.injEq] at hi
    obtain ⟨rfl,rfl⟩:=hi
    have Iy:=(List.getElem?_eq_some_iff.mp er).1
    have hr:=k9 r' (List.mem_of_getElem? er)
    have ht:p.take (i + 1)=p.take i ++ [r']:=by
     rw [List.take_add_one,er]; rfl
    have GZ:(p.take i).length=i:=by rw [List.length_take]; omega
    have Xz:(led r').length<=50:=by have:=kQ (r:=r'); omega
    have nO:(bB 1 ((p.take i).map led)).length<=1200:=by
     have:=kP ((p.take i).map led) 1 (fun s hs=>by
      obtain ⟨t,ht,rfl⟩:=List.mem_map.mp hs
      have:=kQ (r:=t)
      have:=k9 t (List.mem_of_mem_take ht)
      omega)
     rw [List.length_map,GZ] at this
     omega
    refine ⟨_,[some (dn p),some (.list (((0,0) :: bB 1 ((p.take (i + 1)).map led)).map dC)),some (.int ((1 + i:Nat):Int)),some (dR r')],rfl,?_,_,_,rfl⟩
    have hc:fU (a9 (bQ (dU iF 1 (aa (ae 3) ai)))) [2] (aW (aa (ae 0) (aa (g2 dB (ae 1) (ae 0)) ai))) [some (dn p),some (.list (((0,0) :: bB 1 ((p.take i).map led)).map dC)),some (.int ((1 + i:Nat):Int)),some (dR r')]=some (((led r').map fun b=>(b,((1 + i:Nat):Int) - b)).map dC):=by
     refine kK PyData.int dC (fun b=>(b,((1 + i:Nat):Int) - b)) (led r') ?_ (by omega) fun x _=>rfl
     have ec:bQ (dU iF 1 (aa (ae 3) ai)) [some (dn p),some (.list (((0,0) :: bB 1 ((p.take i).map led)).map dC)),some (.int ((1 + i:Nat):Int)),some (dR r')]=some (.list ((led r').map .int)):=bP (gX (cons_of rfl rfl) rfl (D8 (by omega)))
     unfold a9
     rw [ec]
     rfl
    refine (yO rfl hc (by simp only [List.length_map,List.length_cons]; omega)).trans ?_
    have key:bB 1 ((p.take (i + 1)).map led)=bB 1 ((p.take i).map led) ++ jX (1 + i) (led r'):=by
     rw [ht,List.map_append,show List.map led [r']=[led r'] from rfl,iz,List.length_map,GZ]
    simp only [key,List.map_cons,List.map_append,List.cons_append]
    rfl
 ·rintro δ' ⟨a,b,rfl⟩
  refine ret (.list (((0,0) :: bB 1 (p.map led)).map dC)) ?_ (.mk rfl rfl)
  rw [List.length_zipIdx,List.take_length]
  rfl
def aJ (p:List (List Int)):List (Int×Int):=((0,0) :: bB 1 (p.map led)).filter fun c=> !G1 p c
theorem K9 {p:List (List Int)} (hl:p.length<=24) (k9:∀ r∈p,r.length<=25):qp [dn p]=some ((aJ p).map dC):=by
 rw [K7]
 have nO:(bB 1 (p.map led)).length<=1200:=by
  have:=kP (p.map led) 1 (fun s hs=>by
   obtain ⟨t,ht,rfl⟩:=List.mem_map.mp hs
   have:=kQ (r:=t)
   have:=k9 t ht
   omega)
  rw [List.length_map] at this
  omega
 have hc:cz (a9 (bQ (dU gy 1 (aa (ae 0) ai)))) 1 [0] (aL 0) (k8 (ja (aK iy 2 (aa (ae 1) (aa (ae 0) ai))))) (ae 0) [some (dn p)]=some (((((0,0) :: bB 1 (p.map led)).filter fun c=> !G1 p c).map id).map dC):=by
  refine nh dC dC id (fun c=> !G1 p c) ((0,0) :: bB 1 (p.map led)) ?_ (by simp only [List.length_cons]; omega) (fun c _=>?_) fun c _ _=>rfl
  ·have ec:bQ (dU gy 1 (aa (ae 0) ai)) [some (dn p)]=some (.list (((0,0) :: bB 1 (p.map led)).map dC)):=bP (gX (cons_of rfl rfl) rfl (BH hl k9))
   unfold a9
   rw [ec]
   rfl
  ·exact kL (fg (call_of (cons_of rfl (cons_of rfl rfl)) rfl (BG p c)))
 rw [List.map_id] at hc
 exact bb (ret (.list ((aJ p).map dC)) (bP hc) (.mk rfl rfl))
def qw (p:List (List Int)) (c:Int×Int):Bool:=(decide (0<=c.1 + c.2) && decide (c.1 + c.2 < (p.length:Int))) && decide (c.1∈p.getD (c.1 + c.2).toNat [])
theorem G4 (p:List (List Int)) (n:Nat) (b:Int):qw p (b,(n:Int) - b)=decide (b∈p.getD n []):=by
 unfold qw
 simp only
 rw [show b + ((n:Int) - b)=(n:Int) by omega,Int.toNat_natCast,decide_eq_true (show (0:Int)<=(n:Int) by omega),Bool.true_and]
 rcases Nat.lt_or_ge n p.length with q | q
 ·rw [decide_eq_true (show (n:Int) < (p.length:Int) by omega),Bool.true_and]
 ·rw [decide_eq_false (show ¬ (n:Int) < (p.length:Int) by omega),Bool.false_and,List.getD_eq_getElem?_getD,List.getElem?_eq_none q]
  simp
theorem n6 {L:Nat} (h:L<=24): -100000<=((L:Nat):Int) + 1 /\ ((L:Nat):Int) + 1<=100000 /\ ((((L:Nat):Int) + 1) - 1).toNat=L:=⟨by omega,by omega,by omega⟩
theorem G5 {N:Int} {i L:Nat} (h:N=1 + (i:Int)) (hi:i < L):0<=N /\ N.toNat=i + 1 /\ 0<=N - 1 /\ N - 1 < (L:Int) /\ (N - 1).toNat=i /\ (¬ N < (L:Int)->L<=i + 1):=⟨by omega,by omega,by omega,by omega,by omega,fun _=>by omega⟩
theorem G6 {a b i L:Nat} (h1:a<=50 * i) (h2:b<=a) (hi:i < L) (hL:L<=24):b<=1200:=by omega
theorem uf {l r f:Nat} (h:l<=2 * r) (hr:r<=25):l<=50 /\ r < 32 /\ (f<=l->∀ a,a<=1200->a + f<=100000):=⟨by omega,by omega,fun _ _ _=>by omega⟩
theorem yR {p:List (List Int)} (hl:p.length<=24) (k9:∀ r∈p,r.length<=25):gD [dn p]=some (((bB 1 (p.map led)).filter fun c=> !qw p c).map dC):=by
 rw [yH]
 refine bb ?_
 refine aM [some (dn p),some (.list []),none,none,none] rfl ?_
 refine jh 1 p.length (fun i δ=>∃ a b c,δ=[some (dn p),some (.list (((bB 1 ((p.take i).map led)).filter fun c=> !qw p c).map dC)),a,b,c]) ?_ ⟨none,none,none,rfl⟩ ?_ ?_
 ·have e:aa (gC (.int (1))) (aa (g2 bp (fI e9 (aa (ae 0) ai)) (gC (.int (1)))) ai) [some (dn p),some (.list []),none,none,none]=some [.int 1,.int (((p.length:Nat):Int) + 1)]:=by
   show some [PyData.int 1,PyData.int ((((p.map dR).length:Nat):Int) + 1)]=_
   rw [List.length_map]
  refine (BA e (by decide) (by decide) (n6 hl).1 (n6 hl).2.1).trans ?_
  rw [(n6 hl).2.2]
 ·rintro i δ hi ⟨a,b,c,rfl⟩
  obtain ⟨r,er⟩:∃ r,p[i]?=some r:=⟨_,List.getElem?_eq_getElem hi⟩
  have hr:=k9 r (List.mem_of_getElem? er)
  have ht:p.take (i + 1)=p.take i ++ [r]:=by rw [List.take_add_one,er]; rfl
  have GZ:(p.take i).length=i:=by rw [List.length_take]; exact Nat.min_eq_left (Nat.le_of_lt hi)
  obtain ⟨acc,lN⟩:∃ acc,acc=((bB 1 ((p.take i).map led)).filter fun c=> !qw p c).map dC:=⟨_,rfl⟩
  rw [<- lN]
  have N0:acc.length<=1200:=by
   have h1:=kP ((p.take i).map led) 1 (fun s hs=>by
    obtain ⟨t,ht,rfl⟩:=List.mem_map.mp hs
    exact (uf (f:=0) (kQ (r:=t)) (k9 t (List.mem_of_mem_take ht))).1)
   rw [List.length_map,GZ] at h1
   have h2:=List.length_filter_le (fun c=> !qw p c) (bB 1 ((p.take i).map led))
   rw [lN,List.length_map]
   exact G6 h1 h2 hi hl
  obtain ⟨Xz,ZG,_⟩:=uf (f:=0) (kQ (r:=r)) hr
  obtain ⟨N,hN⟩:∃ N:Int,N=1 + (i:Int):=⟨_,rfl⟩
  obtain ⟨m1,m2,m3,m4,m5,m6⟩:=G5 hN hi
  rw [<- hN]
  obtain ⟨on,QR⟩:∃ on,on=p.getD (i + 1) []:=⟨_,rfl⟩
  have st:jq (gB (g2 zE (ae 2) (fI e9 (aa (ae 0) ai)))) (aS 3 (g2 bu (ae 0) (ae 2))) cE [some (dn p),some (.list acc),some (.int N),some (.tuple []),c]=some (.nx [some (dn p),some (.list acc),some (.int N),some (dR on),c]):=by
   have hc:gB (g2 zE (ae 2) (fI e9 (aa (ae 0) ai))) [some (dn p),some (.list acc),some (.int N),some (.tuple []),c]=some (decide (N < (p.length:Int))):=by
    refine dG ?_
    show some (PyData.bool (decide (N < (((p.map dR).length:Nat):Int))))=_
    rw [List.length_map]
   by_cases q:N < (p.length:Int)
   ·refine oH true (hc.trans (congrArg some (decide_eq_true q))) (fun _=>?_) fun z=>nomatch z
    refine (aP (ak rfl rfl (D0 m1 q))).trans ?_
    rw [m2,<- QR]
    rfl
   ·refine oH false (hc.trans (congrArg some (decide_eq_false q))) (fun z=>nomatch z) fun _=>?_
    have:on=[]:=by rw [QR,List.getD_eq_getElem?_getD,List.getElem?_eq_none (m6 q)]; rfl
    rw [this]; rfl
  have ix:g2 bu (ae 0) (g2 dB (ae 2) (gC (.int (1)))) [some (dn p),some (.list acc),some (.int N),some (dR on),c]=some (dR r):=by
   refine (ak rfl rfl (D0 (p:=p) (i:=N - 1) m3 m4)).trans ?_
   rw [m5,List.getD_eq_getElem?_getD,er]
   rfl
  have ZH:=yL (a:=bQ (vv lJ (aa (g2 bu (ae 0) (g2 dB (ae 2) (gC (.int (1))))) ai))) (b:=g2 bu (ae 0) (g2 dB (ae 2) (gC (.int (1))))) (δ:=[some (dn p),some (.list acc),some (.int N),some (dR on),c]) (r:=r) (by
   unfold bQ vv
   rw [cons_of ix rfl]
   rfl) (.inr ix) ZG
  refine ⟨_,[some (dn p),some (.list (((bB 1 ((p.take (i + 1)).map led)).filter fun c=> !qw p c).map dC)),some (.int N),some (dR on),some (.list ((led r).map .int))],rfl,?_,_,_,_,rfl⟩
  refine bV [some (dn p),some (.list acc),some (.int N),some (.tuple []),c] rfl ?_
  refine bV _ st ?_
  refine bV [some (dn p),some (.list acc),some (.int N),some (dR on),some (.list ((led r).map .int))] (aP (bP ZH)) ?_
  have ZI:cz (a9 (ae 4)) 1 [2,3] (aL 0) (gB (g2 tf (ae 0) (ae 2))) (aW (aa (ae 0) (aa (g2 dB (ae 1) (ae 0)) ai))) [some (dn p),some (.list acc),some (.int N),some (dR on),some (.list ((led r).map .int))]=some ((((led r).filter fun b=> !decide (b∈on)).map fun b=>(b,N - b)).map dC):=by
   refine nh PyData.int dC (fun b=>(b,N - b)) (fun b=> !decide (b∈on)) (led r) rfl (Nat.le_trans Xz (by decide)) (fun b _=>?_) fun b _ _=>rfl
   refine dG (ak rfl rfl ?_)
   unfold tf
   rw [DY]
   rfl
  refine (yO rfl ZI (by simp only [List.length_map]; exact (uf (kQ (r:=r)) hr).2.2 (List.length_filter_le (fun b=> !decide (b∈on)) (led r)) _ N0)).trans ?_
  have key:((bB 1 ((p.take (i + 1)).map led)).filter fun c=> !qw p c).map dC=acc ++ (((led r).filter fun b=> !decide (b∈on)).map fun b=>(b,N - b)).map dC:=by
   rw [ht,List.map_append,show List.map led [r]=[led r] from rfl,iz,List.length_map,GZ,List.filter_append,List.map_append,<- lN]
   congr 2
   unfold jX
   rw [List.filter_map]
   have ef:((fun c:Int×Int=> !qw p c) ∘ fun b:Int=>(b,((1 + i:Nat):Int) - b))=fun b=> !decide (b∈on):=by
    funext b
    show (!qw p (b,((1 + i:Nat):Int) - b))=_
    rw [G4,QR,Nat.add_comm 1 i]
   rw [ef]
   congr 1
   funext b
   rw [hN]
   push_cast
   rfl
  rw [key]
  rfl
 ·rintro δ' ⟨a,b,c,rfl⟩
  refine ret (.list (((bB 1 (p.map led)).filter fun c=> !qw p c).map dC)) ?_ (.mk rfl rfl)
  rw [List.take_length]
  rfl
theorem ug {g:DS->Option D} {δ:DS} {d:D} (h:g δ=some d):pQ g δ=some (.nx δ):=by unfold pQ; rw [h]; rfl
theorem G7 {a b c:DS->Option D} {δ:DS} {x y z:D} (h1:a δ=some x) (h2:b δ=some y) (h3:c δ=some z):aW (aa a (aa b (aa c ai))) δ=some (.tuple [x,y,z]):=by
 unfold aW; rw [cons_of h1 (cons_of h2 (cons_of h3 rfl))]; rfl
theorem jD {a b:DS->Option D} {δ:DS} {x y:D} (h1:a δ=some x) (h2:b δ=some y):aW (aa a (aa b ai)) δ=some (.tuple [x,y]):=by
 unfold aW; rw [cons_of h1 (cons_of h2 rfl)]; rfl
structure Sz (m:Nat) (q:iX):Prop where
 low:LV q
 top:bt q.1<=m
 bot:bt q.2<=m
theorem Sz.ne {m:Nat} {q:iX} (h:Sz m q):q.2≠0:=by have:=h.low.1; omega
theorem Sz.up {m n:Nat} {q:iX} (h:Sz m q) (hn:m<=n):Sz n q:=⟨h.low,bD h.top hn,bD h.bot hn⟩
theorem wD {m:Nat} {t b:Int} (hb:b≠0) (h1:bt t<=m) (h2:bt b<=m):Sz m (aX t b):=⟨DI hb,eY ((bI hb).yq hb) h1,eY ((bI hb).bot_le hb) h2⟩
theorem La {m:Nat} {a b:iX} (ha:Sz m a) (hb:Sz m b):Sz (m + m) (rm a b):=wD (Int.mul_ne_zero ha.ne hb.ne) (g8 ha.top hb.top) (g8 ha.bot hb.bot)
theorem yS (a b:Int) (hb:bt b<=4000):bg [.int a,.int b]=some (.int (Int.gcd a b:Nat)):=by
 rw [lU]
 refine bb ?_
 refine aM [some (.int (a.natAbs:Nat)),some (.int b),none,none] (by simp only [aS,fI,aa,ae,List.getElem?_cons_zero,Option.join_some,ai,Option.bind_some,mS,List.set_cons_zero]; rw [tR]) ?_
 refine aM [some (.int (a.natAbs:Nat)),some (.int (b.natAbs:Nat)),none,none] (by simp only [aS,fI,aa,ae,List.getElem?_cons_succ,List.getElem?_cons_zero,Option.join_some,ai,Option.bind_some,mS,List.set_cons_succ,List.set_cons_zero]; rw [tR]) ?_
 refine nW (fun m δ=>∃ (x:Nat) (r p:Option D),δ=[some (.int (x:Nat)),some (.int (m:Nat)),r,p] /\ bt (m:Int)<=4000 /\ Nat.gcd x m=Int.gcd a b) (fun δ=>∃ (x:Nat) (r p:Option D),δ=[some (.int (x:Nat)),some (.int 0),r,p] /\ x=Int.gcd a b) b.natAbs ?_ ?_ ?_
 ·exact ⟨_,none,none,rfl,eY (by simp) hb,rfl⟩
 ·rintro m δ ⟨x,r,p,rfl,QA,hg⟩
  by_cases hm:m=0
  ·subst hm
   exact .inl ⟨by simp only [gB,g2,ae,List.getElem?_cons_succ,List.getElem?_cons_zero,Option.join_some,gC,Option.bind_some,nY]; rfl,x,r,p,rfl,by simpa using hg⟩
  ·have fR:x % m < m:=Nat.mod_lt _ (by omega)
   have e:((x:Int) % (m:Int))=((x % m:Nat):Int):=by omega
   have vQ:bt ((x % m:Nat):Int)<=4000:=eY (by simp; omega) QA
   refine .inr ⟨by simp only [gB,g2,ae,List.getElem?_cons_succ,List.getElem?_cons_zero,Option.join_some,gC,Option.bind_some,nY]; simp; omega,[some (.int m),some (.int ((x % m:Nat):Int)),some (.int ((x % m:Nat):Int)),p],x % m,?_,fR,m,_,_,rfl,vQ,?_⟩
   ·simp only [aD,aS,g2,ae,List.getElem?_cons_zero,Option.join_some,List.getElem?_cons_succ,Option.bind_some,List.set_cons_succ,List.set_cons_zero,jq,gB,g1,gC,aK,aa,ai,cE]
    rw [gm (by omega),e]
    simp only [Option.bind_some,List.getElem?_cons_succ,List.getElem?_cons_zero,Option.join_some,List.set_cons_zero,List.set_cons_succ,vD,vj,List.length_cons,List.length_nil,Nat.reduceAdd,if_true,decide_eq_true_eq]
    have ZJ:Builtin.Int.intBits ((x % m:Nat):Int)<=4000:=vQ
    rw [if_neg (by omega)]
   ·rw [<- hg,Nat.gcd_comm x m,Nat.gcd_rec m x,Nat.gcd_comm]
 ·rintro δ' ⟨x,r,p,rfl,h2⟩
  exact ret _ (by simp only [ae,List.getElem?_cons_zero,Option.join_some]; rw [h2]) (.mk rfl rfl)
theorem ph (t b:Int) (Kd:b≠0) (hb:bt b<=4000):iY [.int t,.int b]=some (dF (aX t b)):=by
 rw [K4]
 refine bb ?_
 have hg:=yS t b hb
 have XA:dv t b≠0:=NQ Kd
 have E6:bt (dv t b)<=9000:=by
  refine bD (eY ?_ hb) (by decide)
  have:(Int.gcd t b) ∣ b.natAbs:=Nat.gcd_dvd_right _ _
  have:=Nat.le_of_dvd (by omega) this
  unfold dv; split <;> omega
 refine nX (by simp only [gB,g2,ae,List.getElem?_cons_succ,List.getElem?_cons_zero,Option.join_some,gC,Option.bind_some,yw]; rw [decide_eq_false Kd]) ?_
 refine aM [some (.int t),some (.int b),some (.int (Int.gcd t b:Nat))] (by simp only [aS,aK,aa,ae,List.getElem?_cons_zero,Option.join_some,List.getElem?_cons_succ,ai,Option.bind_some,List.length_cons,List.length_nil,Nat.reduceAdd,if_true,List.set_cons_succ,List.set_cons_zero]; rw [hg]; rfl) ?_
 refine aM [some (.int t),some (.int b),some (.int (dv t b))] ?_ ?_
 ·simp only [jq,gB,g2,ae,List.getElem?_cons_succ,List.getElem?_cons_zero,Option.join_some,gC,Option.bind_some,vj,aS,g1,xK,List.set_cons_succ,List.set_cons_zero,cE,decide_eq_true_eq]
  unfold dv
  split <;> rfl
 ·refine ret (dF (aX t b)) ?_ (.mk rfl rfl)
  simp only [aW,aa,g2,ae,List.getElem?_cons_zero,Option.join_some,List.getElem?_cons_succ,Option.bind_some,ai]
  rw [tU XA E6,tU XA E6]
  rfl
theorem qx (a b:iX) (ha:Sz 4000 a) (hb:Sz 4000 b):iP [dF a,dF b]=some (dF (rm a b)):=by
 rw [GO]
 refine bb ?_
 have f1:=ph a.1 b.2 hb.ne hb.bot
 have f2:=ph b.1 a.2 ha.ne ha.bot
 have o1:=bI (t:=a.1) hb.ne
 have o2:=bI (t:=b.1) ha.ne
 have hq:=(DF ha.low.2 hb.low.2 o1 o2).qm (Int.mul_ne_zero ha.ne hb.ne)
 have c1:=eY (o1.yq hb.ne) ha.top
 have c2:=eY (o1.bot_le hb.ne) hb.bot
 have c3:=eY (o2.yq ha.ne) hb.top
 have c4:=eY (o2.bot_le ha.ne) ha.bot
 refine aM [some (dF a),some (dF b),some (dF (aX a.1 b.2)),none] (by simp only [aS,aK,aa,g2,ae,List.getElem?_cons_zero,Option.join_some,gC,Option.bind_some,fm,List.getElem?_cons_succ,dX,ai,List.length_cons,List.length_nil,Nat.reduceAdd,if_true,List.set_cons_succ,List.set_cons_zero]; rw [f1]; rfl) ?_
 refine aM [some (dF a),some (dF b),some (dF (aX a.1 b.2)),some (dF (aX b.1 a.2))] (by simp only [aS,aK,aa,g2,ae,List.getElem?_cons_succ,List.getElem?_cons_zero,Option.join_some,gC,Option.bind_some,fm,dX,ai,List.length_cons,List.length_nil,Nat.reduceAdd,if_true,List.set_cons_succ,List.set_cons_zero]; rw [f2]; rfl) ?_
 refine ret (dF (rm a b)) ?_ (.mk rfl rfl)
 unfold rm
 rw [<- hq]
 simp only [aW,aa,g2,ae,List.getElem?_cons_succ,List.getElem?_cons_zero,Option.join_some,gC,Option.bind_some,fm,dX,ai]
 rw [cB (cx c1 c3),cB (cx c2 c4)]
 rfl
theorem wF (q:iX) (k:Nat) (h1:bt q.1<=1000) (h2:bt q.2<=1000) (hk:k<=1000):kM [dF q,.int (k:Nat)]=some (dF (q.1 ^ k,q.2 ^ k)):=by
 rw [GP]
 refine bb ?_
 refine aM [some (dF q),some (.int (k:Nat)),some (.int 1),none,none] rfl (aM [some (dF q),some (.int (k:Nat)),some (.int 1),some (.int 1),none] rfl ?_)
 refine jh 0 k (fun i δ=>∃ z:Option D,δ=[some (dF q),some (.int (k:Nat)),some (.int (q.1 ^ i)),some (.int (q.2 ^ i)),z]) (iw rfl (by omega)) ⟨none,by rw [Int.pow_zero,Int.pow_zero]⟩ ?_ ?_
 ·rintro i δ hi ⟨z,rfl⟩
  have hm:∀ {u:Int},bt u<=1000->IntMulOk (u ^ i) u:=fun h=>cx (yt h i) h (by have:1000 * i<=1000 * 1000:=Nat.mul_le_mul_left _ (by omega); omega)
  refine ⟨_,[some (dF q),some (.int (k:Nat)),some (.int (q.1 ^ (i + 1))),some (.int (q.2 ^ (i + 1))),some (.int (0 + (i:Int)))],rfl,?_,_,rfl⟩
  exact bV [some (dF q),some (.int (k:Nat)),some (.int (q.1 ^ (i + 1))),some (.int (q.2 ^ i)),some (.int (0 + (i:Int)))] (aP (ak rfl (ak rfl rfl (fm q)) ((cB (hm h1)).trans (by rw [Int.pow_succ])))) (aP (ak rfl (ak rfl rfl (dX q)) ((cB (hm h2)).trans (by rw [Int.pow_succ]))))
 ·rintro δ' ⟨z,rfl⟩
  exact ret (dF (q.1 ^ k,q.2 ^ k)) rfl (.mk rfl rfl)
theorem ji (a b:iX) (m1:IntMulOk a.1 b.2) (m2:IntMulOk b.1 a.2):fh [dF a,dF b]=some (.bool (decide (a.1 * b.2 < b.1 * a.2))):=by
 rw [GQ]
 exact bb (ret _ (ak (ak (ak rfl rfl (fm a)) (ak rfl rfl (dX b)) (cB m1)) (ak (ak rfl rfl (fm b)) (ak rfl rfl (dX a)) (cB m2)) rfl) (.mk rfl rfl))
theorem uh (a b:iX) (ha:Sz 4000 a) (hb:Sz 4000 b):jy [dF a,dF b]=some (dF (tP a b)):=by
 rw [K5]
 refine bb ?_
 obtain ⟨x,y,hg,e1,e2,hc⟩:=sC (t:=a.2) (b:=b.2) hb.ne
 have vg:=yS a.2 b.2 hb.bot
 have E6:bt (Int.gcd a.2 b.2:Int)<=4000:=eY (bJ ⟨y,by rw [Int.mul_comm]; exact e2⟩ hb.ne) hb.bot
 generalize (Int.gcd a.2 b.2:Int)=g at *
 have ex:a.2 / g=x:=by rw [e1]; exact Int.mul_ediv_cancel _ (by omega)
 have ey:b.2 / g=y:=by rw [e2]; exact Int.mul_ediv_cancel _ (by omega)
 have hx:bt x<=4000:=eY (bJ ⟨g,e1⟩ ha.ne) ha.bot
 have hy:bt y<=4000:=eY (bJ ⟨g,e2⟩ hb.ne) hb.bot
 have vf:=ph (a.1 * y + b.1 * x) g (by omega) E6
 have ok:=bI (t:=a.1 * y + b.1 * x) (show g≠0 by omega)
 have hq:=(Gz ha.low.2 hb.low.2 ha.low.1 hb.low.1 hg e1 e2 hc ok).qm (Int.mul_ne_zero ha.ne hb.ne)
 have c2:=eY (ok.bot_le (by omega)) E6
 refine aM [some (dF a),some (dF b),some (.int g),none,none,none] (aP (call_of (cons_of (ak rfl rfl (dX a)) (cons_of (ak rfl rfl (dX b)) rfl)) rfl vg)) ?_
 refine aM [some (dF a),some (dF b),some (.int g),some (.int x),none,none] (aP ((ak (ak rfl rfl (dX a)) rfl (oG hg (bD E6 (by decide)))).trans (by rw [ex]))) ?_
 refine aM [some (dF a),some (dF b),some (.int g),some (.int x),some (.int y),none] (aP ((ak (ak rfl rfl (dX b)) rfl (oG hg (bD E6 (by decide)))).trans (by rw [ey]))) ?_
 refine aM [some (dF a),some (dF b),some (.int g),some (.int x),some (.int y),some (dF (aX (a.1 * y + b.1 * x) g))]
  (aP (call_of (cons_of (ak (ak (ak rfl rfl (fm a)) rfl (cB (cx ha.top hy))) (ak (ak rfl rfl (fm b)) rfl (cB (cx hb.top hx))) rfl) (cons_of rfl rfl)) rfl vf)) ?_
 refine ret (dF (tP a b)) ?_ (.mk rfl rfl)
 unfold tP
 rw [<- hq]
 exact jD (ak rfl rfl (fm _)) (ak (ak rfl rfl (cB (cx hx hy))) (ak rfl rfl (dX _)) (cB (cx (g8 hx hy) c2)))
theorem Lb {m:Nat} {q:iX} (h:Sz m q):Sz m (-q.1,q.2):=⟨⟨h.low.1,by show Int.gcd (-q.1) q.2=1; rw [Int.neg_gcd]; exact h.low.2⟩,KY h.top,h.bot⟩
theorem Eb (a b:iX) (ha:Sz 4000 a) (hb:Sz 4000 b):nc [dF a,dF b]=some (dF (tP a (-b.1,b.2))):=by
 rw [GN]
 refine bb (ret _ (call_of (cons_of rfl (cons_of (jD (x:=.int (-b.1)) (y:=.int b.2) rfl rfl) rfl)) rfl (uh a (-b.1,b.2) ha (Lb hb))) (.mk rfl rfl))
theorem G8 (a b:iX) (ha:Sz 4000 a) (hb:Sz 4000 b) (h0:b.1≠0):ql [dF a,dF b]=some (dF (rm a (aX b.2 b.1))):=by
 rw [K6]
 refine bb (ret _ (call_of (cons_of rfl (cons_of (call_of (cons_of rfl (cons_of rfl rfl)) rfl (ph b.2 b.1 h0 hb.top)) rfl)) rfl (qx a _ ha (wD h0 hb.bot hb.top))) (.mk rfl rfl))
theorem Lc {gi:DS->Option (List D)} {t:D->DS->Option DS} {b:DS->Option Res} {δ:DS} {ds:List D} {r:Option Res} (h1:gi δ=some ds) (h2:jV t b ds δ=r):d3 gi t b δ=r:=by unfold d3; rw [h1]; exact h2
theorem N1 {A:Int->Int} {r:List Int} (h:∀ x,0<=A x) (b:Int):0<=lv A r b:=by
 have h1:=h (b - 1)
 have h2:=h b
 unfold lv
 split <;> split <;> omega
theorem wG {p:List (List Int)} {A:Int->Int} (h:∀ x,0<=A x):∀ (k:Nat) (b:Int),0<=WW A p k b
 | 0,b=>by rw [WW_0]; exact h b
 | k + 1,b=>by rw [jC]; exact N1 (wG h k) b
theorem Ak (x:Int):0<=A0 x:=by unfold A0; split <;> omega
theorem Ec {A:Int->Int} {r:List Int} (h:∀ x,0<=A x) (hr:∀ x∈r,0 < A x) {b:Int} (hb:b∈led r):0 < lv A r b:=by
 have h1:=h (b - 1)
 have h2:=h b
 unfold lv
 rcases kO.mp hb with z | z
 ·have:=hr b z
  rw [if_pos z]; split <;> omega
 ·have:=hr _ z
  rw [if_pos z]; split <;> omega
theorem Al:∀ {q:List (List Int)} {r:List Int},IG r q->∀ k x,x∈(r :: q).getD (k + 1) []->x∈led ((r :: q).getD k [])
 | [],_,_,k,x,hx=>by simp at hx
 | s :: q,r,hc,0,x,hx=>hc.1.2.2 x (by simpa using hx)
 | s :: q,r,hc,k + 1,x,hx=>by
   have:=Al hc.2 k x (by simpa using hx)
   simpa using this
theorem Ld {p:List (List Int)} (h:Pl p) (k:Nat) (x:Int) (hx:x∈p.getD (k + 1) []):x∈led (p.getD k []):=by
 obtain ⟨q,rfl,hc⟩:=h.ex
 exact Al hc k x hx
theorem yT {p:List (List Int)} (h:Pl p):∀ (k:Nat) (x:Int),x∈p.getD k []->0 < WW A0 p k x
 | 0,x,hx=>by
   obtain ⟨q,rfl,hc⟩:=h.ex
   rw [WW_0]
   have:x=0:=by simpa using hx
   subst this; decide
 | k + 1,x,hx=>by
   rw [jC]
   exact Ec (wG Ak k) (yT h k) (Ld h k x hx)
theorem Le {p:List (List Int)} (h:Pl p) (k:Nat) (x:Int) (hx:x∈led (p.getD k [])):0 < WW A0 p (k + 1) x:=by
 rw [jC]
 exact Ec (wG Ak k) (yT h k) hx
theorem Am {A:Int->Int} {p q:List (List Int)}:∀ (k:Nat),(∀ j,j < k->p.getD j []=q.getD j [])->WW A p k=WW A q k
 | 0,_=>by rw [WW_0,WW_0]
 | k + 1,h=>by
   funext b
   rw [jC,jC,h k (by omega),Am k fun j hj=>h j (by omega)]
theorem Dt.get {kds:List (D×D)} {F:WF} (h:Dt kds F) {b g:Int} (hp:F b g≠0):cw kds [.inl b,.inl g]=some (.int (F b g)):=by
 have:=h b g
 cases e:cw kds [.inl b,.inl g] with
 | none=>rw [e] at this; exact absurd (by injection this with z; exact z.symm) hp
 | some d=>rw [e] at this; rw [show d=.int (F b g) from this]
def cI (p:List (List Int)):WF:=(bB 0 p).foldl cX (jW (0,0))
theorem Ed {p:List (List Int)} (h:Pl p) {x y:Int} {k:Nat} (e:x + y=(k:Int)):cI p x y=WW A0 p k x:=D7 h e
theorem BI {p:List (List Int)} (h:Pl p) {n:Nat} {bs cs:List Int} (hr:p[n]?=some (bs ++ cs)) {x y:Int} (e:x + y=(n:Int)):(jX n bs).foldl cX ((bB 0 (p.take n)).foldl cX (jW (0,0))) x y=WW A0 p n x:=by
 have hn:=(List.getElem?_eq_some_iff.mp hr).1
 have hl:(p.take n).length=n:=by rw [List.length_take]; omega
 have e1:(jX n bs).foldl cX ((bB 0 (p.take n)).foldl cX (jW (0,0)))=(bB 0 (p.take n ++ [bs])).foldl cX (jW (0,0)):=by
  rw [iz,List.foldl_append,hl,Nat.zero_add]
 rw [e1]
 have nd:=(pe h).1
 have z4:∀ s∈p.take n ++ [bs],s.Nodup:=by
  intro s hs
  rcases List.mem_append.mp hs with z | z
  ·exact nd s (List.mem_of_mem_take z)
  ·rw [List.mem_singleton.mp z]
   have:=nd _ (List.mem_of_getElem? hr)
   exact (List.nodup_append.mp this).1
 refine ((qv (p.take n ++ [bs]) 0 A0 (jW (0,0)) z4 ?_ ?_ x y).2 n (by push_cast; omega)).trans ?_
 ·intro x y q
  unfold jW A0
  by_cases c:x=0
  ·rw [if_pos ⟨c,by push_cast at q; show y=0; omega⟩,if_pos c]
  ·rw [if_neg (fun z=>c z.1),if_neg c]
 ·intro x y q
  unfold jW
  rw [if_neg]
  rintro ⟨z1,z2⟩
  have ZE:x=0:=z1
  have ZF:y=0:=z2
  push_cast at q
  omega
 ·rw [Am (q:=p) n fun j hj=>?_]
  rw [List.getD_eq_getElem?_getD,List.getD_eq_getElem?_getD,List.getElem?_append_left (by omega),List.getElem?_take_of_lt hj]
theorem Ee (p:List (List Int)):jb (p.map dR)=p.zipIdx.map fun x=>.tuple [.int (x.2:Nat),dR x.1]:=by
 unfold jb
 rw [List.zipIdx_map,List.map_map]
 rfl
theorem ZK {x y z n j:Nat} (l2:x<=y + 1) (l1:y<=z + 1) (h:z<=n + 2 * j):x<=n + 2 * (j + 1):=by omega
theorem ZL {z i j L r:Nat} (h:z<=1 + 50 * i + 2 * j) (hi:i < L) (hL:L<=24) (hj:j < r) (hr:r<=25):z + 1 < 100000:=by omega
theorem yU {p:List (List Int)} (hp:Pl p) (hl:p.length<=24) (k9:∀ r∈p,r.length<=25):∃ kds,gF [dn p]=some (.dict kds) /\ Dt kds (cI p):=by
 have main:d8 (gF [dn p]) fun d=>∃ kds,d=.dict kds /\ Dt kds (cI p):=by
  rw [yI]
  refine aM [some (dn p),some (.dict [(dC (0,0),.int 1)]),none,none,none,none,none] rfl ?_
  refine gN (fun x:List Int×Nat=>PyData.tuple [.int (x.2:Nat),dR x.1]) p.zipIdx (fun i δ=>∃ kds a b c d e,δ=[some (dn p),some (.dict kds),a,b,c,d,e] /\ Dt kds ((bB 0 (p.take i)).foldl cX (jW (0,0))) /\ kds.length<=1 + 50 * i) ?_ ⟨_,_,_,_,_,_,rfl,?_,by simp⟩ ?_ ?_
  ·show some (jb (p.map dR))=_
   rw [Ee]
  ·refine ⟨rfl,fun b g=>?_⟩
   have:gU [] [.inl 0,.inl 0] (.int 1)=[(dC (0,0),.int 1)]:=rfl
   rw [<- this]
   exact (Dt.put (kds:=[]) (F:=fun _ _=>0) ⟨rfl,fun b g=>rfl⟩ 0 0 1) b g
  ·rintro i ⟨r,n⟩ δ hi ⟨kds,a,b,c,d,e,rfl,hd,hlen⟩
   rw [List.getElem?_zipIdx] at hi
   cases er:p[i]? with
   | none=>rw [er] at hi; cases hi
   | some r'=>
   rw [er] at hi
   simp only [Option.map_some,Nat.zero_add,Option.some.injEq,Prod.mk.injEq] at hi
   obtain ⟨rfl,rfl⟩:=hi
   have Iy:=(List.getElem?_eq_some_iff.mp er).1
   have E7:=k9 r' (List.mem_of_getElem? er)
   have ht:p.take (i + 1)=p.take i ++ [r']:=by rw [List.take_add_one,er]; rfl
   have GZ:(p.take i).length=i:=by rw [List.length_take]; omega
   obtain ⟨G,hG⟩:∃ G,G=(bB 0 (p.take i)).foldl cX (jW (0,0)):=⟨_,rfl⟩
   rw [<- hG] at hd
   obtain ⟨δ',e2,N2,c2,d2,Ir,rfl,hd2,M1⟩:=tW (t:=aL 4)
    (b:=(aD (aS 5 (p5 (ae 1) (aW (aa (ae 4) (aa (g2 dB (ae 2) (ae 4)) ai)))))
     (d3 (a9 (aW (aa (aW (aa (g2 bp (ae 4) (gC (.int (1)))) (aa (g2 dB (ae 2) (ae 4)) ai))) (aa (aW (aa (ae 4) (aa (g2 bp (g2 dB (ae 2) (ae 4)) (gC (.int (1)))) ai))) ai)))) (aL 6)
      (sr 1 (ae 6) (g2 bp (lS (ae 1) (ae 6) (gC (.int (0)))) (ae 5)))))) PyData.int
    (fun j δ=>∃ kds c d e,δ=[some (dn p),some (.dict kds),some (.int (i:Nat)),some (dR r'),c,d,e] /\ Dt kds ((jX i (r'.take j)).foldl cX G) /\ kds.length<=1 + 50 * i + 2 * j) r' (δ:=[some (dn p),some (.dict kds),some (.int (i:Nat)),some (dR r'),c,d,e]) ⟨kds,c,d,e,rfl,hd,by omega⟩ (by
     rintro j x δ hj ⟨kds,c,d,e,rfl,hd,hlen⟩
     have ZM:=(List.getElem?_eq_some_iff.mp hj).1
     have ZN:x∈r':=List.mem_of_getElem? hj
     obtain ⟨F,hF⟩:∃ F,F=(jX i (r'.take j)).foldl cX G:=⟨_,rfl⟩
     rw [<- hF] at hd
     obtain ⟨k,hk⟩:∃ k:Int×Int,k=(x,(i:Int) - x):=⟨_,rfl⟩
     have D6:(jX i (r'.take (j + 1))).foldl cX G=cX F k:=by
      rw [List.take_add_one,hj]
      unfold jX at hF ⊢
      rw [List.map_append,List.foldl_append,<- hF,hk]; rfl
     have F6:F k.1 k.2=WW A0 p i x:=by
      rw [hF,hG,hk]
      exact BI hp (cs:=r'.drop j) (by rw [List.take_append_drop]; exact er) (by show x + ((i:Int) - x)=_; omega)
     have DX:F k.1 k.2≠0:=by
      have:=yT hp i x (by rw [List.getD_eq_getElem?_getD,er]; exact ZN)
      omega
     have Xm:x=k.1:=by rw [hk]
     have Zv:(i:Int) - x=k.2:=by rw [hk]
     obtain ⟨k1,A8⟩:∃ k1,k1=gU kds [.inl (k.1 + 1),.inl k.2] (.int (F (k.1 + 1) k.2 + F k.1 k.2)):=⟨_,rfl⟩
     have C1:=hd.put (k.1 + 1) k.2 (F (k.1 + 1) k.2 + F k.1 k.2)
     rw [<- A8] at C1
     have hd2:=C1.put k.1 (k.2 + 1) (F k.1 (k.2 + 1) + F k.1 k.2)
     have l1:k1.length<=kds.length + 1:=by rw [A8]; exact kI _ _ _
     have hz:=ZL hlen Iy hl ZM E7
     have l2:=kI k1 [.inl k.1,.inl (k.2 + 1)] (.int (F k.1 (k.2 + 1) + F k.1 k.2))
     refine ⟨_,[some (dn p),some (.dict (gU k1 [.inl k.1,.inl (k.2 + 1)] (.int (F k.1 (k.2 + 1) + F k.1 k.2)))),some (.int (i:Nat)),some (dR r'),some (.int x),some (.int (F k.1 k.2)),some (dC (k.1,k.2 + 1))],rfl,?_,_,_,_,_,rfl,?_,ZK l2 l1 hlen⟩
     ·refine bV [some (dn p),some (.dict kds),some (.int (i:Nat)),some (dR r'),some (.int x),some (.int (F k.1 k.2)),e] (aP ((ue (c:=k) rfl (by rw [hk]; rfl)).trans (hd.get DX))) ?_
      unfold d3
      have hit:a9 (aW (aa (aW (aa (g2 bp (ae 4) (gC (.int (1)))) (aa (g2 dB (ae 2) (ae 4)) ai))) (aa (aW (aa (ae 4) (aa (g2 bp (g2 dB (ae 2) (ae 4)) (gC (.int (1)))) ai))) ai))) [some (dn p),some (.dict kds),some (.int (i:Nat)),some (dR r'),some (.int x),some (.int (F k.1 k.2)),e]=some [dC (k.1 + 1,k.2),dC (k.1,k.2 + 1)]:=by
       show some [dC (x + 1,(i:Int) - x),dC (x,(i:Int) - x + 1)]=_
       rw [hk]
      rw [hit,Option.bind_some]
      refine NZ [some (dn p),some (.dict kds),some (.int (i:Nat)),some (dR r'),some (.int x),some (.int (F k.1 k.2)),some (dC (k.1 + 1,k.2))] [some (dn p),some (.dict k1),some (.int (i:Nat)),some (dR r'),some (.int x),some (.int (F k.1 k.2)),some (dC (k.1 + 1,k.2))] [some (dn p),some (.dict k1),some (.int (i:Nat)),some (dR r'),some (.int x),some (.int (F k.1 k.2)),some (dC (k.1,k.2 + 1))] _ rfl ?_ rfl ?_
      ·refine (pf (c:=(k.1 + 1,k.2)) rfl rfl (ak ((kn (c:=(k.1 + 1,k.2)) rfl rfl rfl).trans (congrArg some (hd (k.1 + 1) k.2))) rfl rfl) (Nat.lt_of_succ_lt hz)).trans ?_
       rw [A8]; rfl
      ·have h5:(cw k1 [.inl k.1,.inl (k.2 + 1)]).getD (.int 0)=.int (F k.1 (k.2 + 1)):=by
        have:=C1 k.1 (k.2 + 1)
        rw [this]
        show PyData.int (if k.1=k.1 + 1 /\ k.2 + 1=k.2 then _ else _)=_
        rw [if_neg (by omega)]
       exact pf (c:=(k.1,k.2 + 1)) rfl rfl (ak ((kn (c:=(k.1,k.2 + 1)) rfl rfl rfl).trans (congrArg some h5)) rfl rfl) (Nat.lt_of_le_of_lt l1 hz)
     ·rw [D6]
      refine ⟨hd2.fn,fun x y=>?_⟩
      rw [hd2 x y]
      congr 1
      show (if x=k.1 /\ y=k.2 + 1 then _ else if x=k.1 + 1 /\ y=k.2 then _ else F x y)=F x y + _ + _
      by_cases c1:x=k.1 /\ y=k.2 + 1
      ·rw [if_pos c1,if_pos c1,if_neg (by omega),c1.1,c1.2]; omega
      ·rw [if_neg c1,if_neg c1]
       by_cases c2:x=k.1 + 1 /\ y=k.2
       ·rw [if_pos c2,if_pos c2,c2.1,c2.2]; omega
       ·rw [if_neg c2,if_neg c2]; omega)
   refine ⟨_,[some (dn p),some (.dict N2),some (.int (i:Nat)),some (dR r'),c2,d2,Ir],rfl,?_,N2,_,_,_,_,_,rfl,?_,by omega⟩
   ·exact Lc rfl e2
   ·rw [ht,iz,List.foldl_append,GZ,Nat.zero_add,<- hG]
    rw [List.take_length] at hd2
    exact hd2
  ·rintro δ' ⟨kds,a,b,c,d,e,rfl,hd,_⟩
   rw [List.length_zipIdx,List.take_length] at hd
   exact ret (.dict kds) rfl (.mk rfl ⟨kds,rfl,hd⟩)
 obtain ⟨_,e,kds,rfl,hd⟩:=main
 exact ⟨kds,e,hd⟩
theorem qy {c:Int×Int}:∀ {q:List (List Int)} {n:Nat},c∈bB n q->∃ k,k < q.length /\ c.1∈q.getD k [] /\ c.1 + c.2=((n + k:Nat):Int)
 | [],n,h=>by simp [bB] at h
 | r :: q,n,h=>by
   rw [bB,List.mem_append] at h
   rcases h with h | h
   ·obtain ⟨b,hb,rfl⟩:=List.mem_map.mp h
    exact ⟨0,by simp,by simpa using hb,by show b + ((n:Int) - b)=_; omega⟩
   ·obtain ⟨k,h1,h2,h3⟩:=qy h
    exact ⟨k + 1,by simpa using h1,by simpa using h2,by rw [h3]; omega⟩
theorem Ef {p:List (List Int)}:∀ (k:Nat) (b:Int),WW A0 p k b<=2 ^ k
 | 0,b=>by rw [WW_0]; unfold A0; split <;> decide
 | k + 1,b=>by
   have h1:=Ef (p:=p) k (b - 1)
   have h2:=Ef (p:=p) k b
   have h3:=wG (p:=p) Ak k (b - 1)
   have h4:=wG (p:=p) Ak k b
   rw [jC,Int.pow_succ]
   unfold lv
   split <;> split <;> omega
structure qz (p:List (List Int)) (c:Int×Int) (b g:Nat):Prop where
 eq:c=((b:Int),(g:Int))
 dr:b + g<=p.length
 d1:1<=b + g
 led:(b:Int)∈led (p.getD (b + g - 1) [])
 ww:cI p c.1 c.2=WW A0 p (b + g) b
 pos:0 < cI p c.1 c.2
 le:cI p c.1 c.2<=2 ^ (b + g)
theorem G9 {x y:Int} {k:Nat} (h:(0<=x /\ x<=(k:Int)) \/ (0<=x - 1 /\ x - 1<=(k:Int))) (e:x + y=((1 + k:Nat):Int)):∃ b g:Nat,x=(b:Int) /\ y=(g:Int) /\ b + g=k + 1 /\ x + y=((b + g:Nat):Int):=⟨x.toNat,y.toNat,by omega,by omega,by omega,by omega⟩
theorem Lf {p:List (List Int)} (hp:Pl p) {c:Int×Int} (h:c∈bB 1 (p.map led)):∃ b g:Nat,qz p c b g:=by
 obtain ⟨k,h1,h2,h3⟩:=qy h
 rw [List.length_map] at h1
 have e:(p.map led).getD k []=led (p.getD k []):=by
  rw [List.getD_eq_getElem?_getD,List.getD_eq_getElem?_getD,List.getElem?_map,List.getElem?_eq_getElem h1]; rfl
 rw [e] at h2
 have hr:=(pe hp).2 k
 obtain ⟨b,g,vQ,ZO,hn,hs⟩:=G9 ((kO.mp h2).imp (hr _) (hr _)) h3
 have hw:cI p c.1 c.2=WW A0 p (b + g) b:=by rw [Ed hp (k:=b + g) hs,vQ]
 refine ⟨b,g,Prod.ext vQ ZO,hn ▸ h1,hn ▸ Nat.succ_le_succ (Nat.zero_le k),?_,hw,?_,?_⟩
 ·rw [hn,Nat.add_sub_cancel,<- vQ]; exact h2
 ·rw [hw,hn,<- vQ]; exact Le hp k _ h2
 ·rw [hw]; exact Ef _ _
theorem pj {p:List (List Int)} (hp:Pl p):aJ p=(bB 1 (p.map led)).filter fun c=> !G1 p c:=by
 obtain ⟨q,rfl,_⟩:=hp.ex
 unfold aJ
 rw [List.filter_cons_of_neg]
 have:G1 ([0] :: q) (0,0)=true:=by unfold G1; simp
 rw [this]; decide
theorem jE {p:List (List Int)} (hp:Pl p) {c:Int×Int} (h:c∈aJ p):∃ b g:Nat,qz p c b g:=by
 rw [pj hp] at h
 exact Lf hp (List.mem_filter.mp h).1
theorem wH {p:List (List Int)} (hp:Pl p) (hl:p.length<=24) (k9:∀ r∈p,r.length<=25):gD [dn p]=some ((aJ p).map dC):=by
 rw [yR hl k9,pj hp]; rfl
theorem BJ {G:List D->Option D} {n:Nat} {g:DS->Option (List D)} {δ:DS} {ds:List D} {d:D} (h:g δ=some ds) (hn:ds.length=n) (hG:G ds=some d) (hd:xl d=true):mR G n g δ=some d:=by
 unfold mR; rw [h,Option.bind_some,if_pos hn,hG,Option.bind_some,if_pos hd]
theorem md {G:List D->Option (List D)} {n:Nat} {g:DS->Option (List D)} {δ:DS} {ds r:List D} (h:g δ=some ds) (hn:ds.length=n) (hG:G ds=some r) (hd:nG r=true):iD G n g δ=some r:=by
 unfold iD; rw [h,Option.bind_some,if_pos hn,hG,Option.bind_some,if_pos hd]
theorem ui:∀ l:List (Int×Int),nG (l.map dC)=true
 | []=>rfl
 | c :: l=>by
   have:=ui l
   rw [List.map_cons]
   simp [nG,xl,dC] at this ⊢
   exact this
theorem Eg {g:DS->Option D} {δ:DS} {l:List D} (h:g δ=some (.list l)):a9 g δ=some l:=by unfold a9; rw [h]; rfl
theorem uj {p:List (List Int)} (hl:p.length<=24) {c:Int×Int} {b g:Nat} (he:qz p c b g):bt (cI p c.1 c.2)<=25:=by
 have h1:=he.pos
 have h2:=he.le
 have h3:=he.dr
 have:(2:Int) ^ (b + g)<=2 ^ 24:=by exact_mod_cast Nat.pow_le_pow_right (by decide) (by omega)
 exact dq (by omega)
theorem Lg {ga gb:DS->Option D} {δ:DS} {xs ys:List D} (h1:ga δ=some (.list xs)) (h2:gb δ=some (.list ys)):Gb ga gb δ=some (tH xs ys):=by unfold Gb; rw [h1,h2]; rfl
theorem An {α β:Type} (e1:α->D) (e2:β->D):∀ (xs:List α) (ys:List β),tH (xs.map e1) (ys.map e2)=(xs.zip ys).map fun x=>.tuple [e1 x.1,e2 x.2]
 | [],ys=>by simp [tH]
 | xs,[]=>by simp [tH]
 | x :: xs,y :: ys=>by
   have:=An e1 e2 xs ys
   unfold tH at this ⊢
   rw [List.map_cons,List.map_cons,List.zipWith_cons_cons,this]; rfl
def wI (l:List iX) (B:Int):List Int:=l.map fun q=>q.1 * (B / q.2)
theorem Ha (l:List iX) (B:Nat) (hp:∀ q∈l,1<=q.2) (h:∀ q∈l,bt q.2<=9000) (h1:∀ q∈l,bt q.1<=100000) (hB:bt (B:Int)<=9001) (hn:l.length<=100000):gY [dP l,.int (B:Nat)]=some ((wI l B).map .int) /\ ∀ t∈wI l B,bt t<=109001:=by
 have hd:∀ q∈l,bt ((B:Int) / q.2)<=9001:=fun q hq=>by
  rw [<- Int.fdiv_eq_ediv_of_nonneg _ (show 0<=q.2 by have:=hp q hq; omega)]
  exact intBits_fdiv_le hB
 constructor
 ·rw [wg]
  refine bb (ret (.list ((wI l B).map .int)) (bP ?_) (.mk rfl rfl))
  refine kK dF PyData.int (fun q=>q.1 * ((B:Int) / q.2)) l rfl hn fun q hq=>?_
  exact ak (ak rfl rfl (fm q)) (ak rfl (ak rfl rfl (dX q)) (oG (by have:=hp q hq; omega) (h q hq))) (cB (cx (h1 q hq) (hd q hq)))
 ·intro t ht
  obtain ⟨q,hq,rfl⟩:=List.mem_map.mp ht
  exact g8 (h1 q hq) (hd q hq)
end aF
namespace aF
theorem sG:∀ (l:List Int) (a b:Int),wy l->(∀ x∈l,a<=x /\ x<=b)->a<=b + 1->(l.length:Int)<=b - a + 1
 | [],a,b,_,_,h=>by simp; omega
 | x :: l,a,b,hr,hx,h=>by
   have h1:=hx x List.mem_cons_self
   have ih:=sG l (x + 1) b (List.pairwise_cons.mp hr).2 (fun y hy=>⟨by have:=(List.pairwise_cons.mp hr).1 y hy; omega,(hx y (List.mem_cons_of_mem _ hy)).2⟩) (by omega)
   rw [List.length_cons]
   push_cast
   omega
theorem wJ:∀ (q:List (List Int)) (n:Nat),(∀ k,k < q.length->(q.getD k []).length<=n + k + 1)->2 * (bB n q).length<=q.length * (2 * n + q.length + 1)
 | [],n,_=>by simp [bB]
 | r :: q,n,h=>by
   have h0:=h 0 (by simp)
   have ih:=wJ q (n + 1) fun k hk=>by
    have:=h (k + 1) (by simpa using hk)
    rw [show (r :: q).getD (k + 1) []=q.getD k [] from rfl] at this
    omega
   rw [bB,List.length_append,List.length_cons]
   unfold jX
   rw [List.length_map]
   have h0':r.length<=n + 0 + 1:=h0
   have e:(q.length + 1) * (2 * n + (q.length + 1) + 1)=q.length * (2 * (n + 1) + q.length + 1) + 2 * (n + 1):=by
    generalize q.length=m
    grind
   rw [e]
   omega
theorem Eh {p:List (List Int)} (hp:Pl p) (k:Nat):(led (p.getD k [])).length<=k + 2:=by
 have hr:=(pe hp).2 k
 have:=sG (led (p.getD k [])) 0 ((k:Int) + 1) jd (fun x hx=>by
  rcases kO.mp hx with z | z
  ·have:=hr _ z; omega
  ·have:=hr _ z; omega) (by omega)
 omega
end aF
namespace aF
open PySem L2 Q1
theorem Ei (ts:List KS.T2):∃ r,tM ts r:=by
 let L:Nat->Nat->Prop:=fun i j=>KS.jZ (ts.getD i (0,0)) (ts.getD j (0,0)) \/ ts.getD i (0,0)=ts.getD j (0,0) /\ i < j
 have dec:∀ i j,Decidable (L i j):=fun i j=>by unfold L; exact inferInstance
 have ZP:∀ i j,¬ L i j->¬ L j i->i=j:=fun i j a b=>by
  unfold L KS.jZ at a b
  have e:ts.getD i (0,0)=ts.getD j (0,0):=KS.nU (fun z=>a (.inl z)) (fun z=>b (.inl z))
  have h1:¬ i < j:=fun z=>a (.inr ⟨e,z⟩)
  have h2:¬ j < i:=fun z=>b (.inr ⟨e.symm,z⟩)
  omega
 have ZQ:∀ i j k,L i k->L i j \/ L j k:=fun i j k h=>by
  rcases h with h | ⟨h,h'⟩
  ·rcases KS.zY (ts.getD j (0,0)) h with z | z
   ·exact .inl (.inl z)
   ·exact .inr (.inl z)
  ·by_cases z:KS.jZ (ts.getD i (0,0)) (ts.getD j (0,0))
   ·exact .inl (.inl z)
   ·by_cases y:KS.jZ (ts.getD j (0,0)) (ts.getD i (0,0))
    ·rw [h] at y; exact .inr (.inl y)
    ·have e:=KS.nU z y
     by_cases x:i < j
     ·exact .inl (.inr ⟨e,x⟩)
     ·exact .inr (.inr ⟨e.symm.trans h,by omega⟩)
 let le:Nat->Nat->Bool:=fun i j=> !(@decide (L j i) (dec j i))
 have hle:∀ i j,le i j=true↔¬ L j i:=fun i j=>by
  show (!(@decide (L j i) (dec j i)))=true↔_
  rw [Bool.not_eq_true',decide_eq_false_iff_not]
 refine ⟨(List.range ts.length).mergeSort le,List.mergeSort_perm _ _,?_⟩
 have h1:((List.range ts.length).mergeSort le).Pairwise fun i j=>le i j=true:=List.pairwise_mergeSort (fun a b c x y=>by
  rw [hle] at *
  intro z
  rcases ZQ _ b _ z with q | q
  ·exact y q
  ·exact x q) (fun a b=>by
  rw [Bool.or_eq_true,hle,hle]
  by_cases q:L b a
  ·right
   intro z
   rcases q with q | ⟨q,q'⟩
   ·rcases z with z | ⟨z,_⟩
    ·exact KS.gv _ (KS.kJ q z)
    ·rw [z] at q; exact KS.gv _ q
   ·rcases z with z | ⟨_,z'⟩
    ·rw [q] at z; exact KS.gv _ z
    ·omega
  ·exact .inl q) _
 have h2:((List.range ts.length).mergeSort le).Nodup:=(List.mergeSort_perm _ _).nodup_iff.mpr List.nodup_range
 refine (h1.and h2).imp fun {i j} z=>?_
 obtain ⟨z1,z2⟩:=z
 rw [hle] at z1
 exact Classical.byContradiction fun w=>z2 (ZP i j w z1)
theorem wK {ga:DS->Option (List D)} {ix:List Nat} {gb:DS->Option D} {δ:DS} {ds v5 kds rs:List D} (h1:ga δ=some ds) (h2:Bv ix δ=some v5) (h3:rj (fun d=>gb ((d :: v5).map some)) ds=some kds) (h4:yp ds kds=some rs):nV ga ix gb δ=some rs:=by
 unfold nV
 rw [h1]
 show (Bv ix δ).bind _=_
 rw [h2]
 show (rj _ ds).bind _=_
 rw [h3]
 exact h4
theorem uk {α:Type} (enc k:α->D) {g:D->Option D}:∀ l:List α,(∀ a∈l,g (enc a)=some (k a))->rj g (l.map enc)=some (l.map k)
 | [],_=>rfl
 | a :: l,h=>by
   rw [List.map_cons,rj,h a List.mem_cons_self]
   show (rj g (l.map enc)).bind _=_
   rw [uk enc k l fun b hb=>h b (List.mem_cons_of_mem _ hb)]
   rfl
theorem Lh {g:DS->Option (List D)} {δ:DS} {n:Nat} (h:g δ=some [.int (n:Nat)]) (hn:n<=100000):Gx g δ=some ((List.range n).map fun i:Nat=>.int (0 + i)):=by
 unfold Gx
 rw [h]
 show (if _ then _ else _)=_
 rw [if_pos ⟨by omega,by omega⟩,Int.toNat_natCast]
theorem Li {g:DS->Option D} {δ:DS} {l:List D} (h:g δ=some (.list l)):Gw g δ=some l:=by unfold Gw; rw [h]; rfl
def E8 (c:Int×Int):KS.T2:=(c.1 + c.2,c.1)
def Ej (a b:Int×Int):Prop:=KS.jZ (E8 a) (E8 b)
theorem Hb {a b:Int×Int} (h:E8 a=E8 b):a=b:=by
 unfold E8 at h
 have h1:=congrArg Prod.fst h
 have h2:=congrArg Prod.snd h
 simp only at h1 h2
 exact Prod.ext h2 (by omega)
theorem Ao (a:Int×Int):¬ Ej a a:=KS.gv _
theorem Lj (a b c:Int×Int) (h:Ej a b) (k:Ej b c):Ej a c:=KS.kJ h k
theorem wL:∀ (q:List (List Int)) (n:Nat),(∀ r∈q,wy r)->(bB n q).Pairwise Ej
 | [],n,_=>by simp [bB]
 | r :: q,n,h=>by
   rw [bB,List.pairwise_append]
   refine ⟨?_,wL q (n + 1) fun s hs=>h s (List.mem_cons_of_mem _ hs),fun a ha b hb=>?_⟩
   ·unfold jX
    rw [List.pairwise_map]
    refine (h r List.mem_cons_self).imp fun {x y} z=>?_
    unfold Ej KS.jZ E8
    simp only
    omega
   ·unfold jX at ha
    obtain ⟨x,_,rfl⟩:=List.mem_map.mp ha
    obtain ⟨k,_,_,e⟩:=qy hb
    unfold Ej KS.jZ E8
    simp only
    left
    omega
theorem wM {p:List (List Int)} (hp:Pl p):(aJ p).Pairwise Ej:=by
 rw [pj hp]
 refine List.Pairwise.filter _ (wL _ _ fun r hr=>?_)
 obtain ⟨s,_,rfl⟩:=List.mem_map.mp hr
 exact jd
theorem um {p:List (List Int)} (hp:Pl p):(aJ p).Nodup:=(wM hp).imp fun {a b} (h:Ej a b) (e:a=b)=>by rw [e] at h; exact Ao _ h
theorem Ek {p:List (List Int)} (hp:Pl p):2 * (aJ p).length<=p.length * (p.length + 3):=by
 rw [pj hp]
 have h0:=List.length_filter_le (fun c=> !G1 p c) (bB 1 (p.map led))
 have:=wJ (p.map led) 1 fun k hk=>by
  rw [List.length_map] at hk
  have e:(p.map led).getD k []=led (p.getD k []):=by
   rw [List.getD_eq_getElem?_getD,List.getD_eq_getElem?_getD,List.getElem?_map,List.getElem?_eq_getElem hk]; rfl
  rw [e]
  have:=Eh hp k
  omega
 rw [List.length_map] at this
 rw [show 2 * 1 + p.length + 1=p.length + 3 by omega] at this
 omega
theorem getD_map {α:Type} (enc:α->D) (l:List α) (z:α) (i:Nat) (hi:i < l.length):(l.map enc).getD i .none=enc (l.getD i z):=by
 rw [List.getD_eq_getElem?_getD,List.getD_eq_getElem?_getD,List.getElem?_map,List.getElem?_eq_getElem hi]; rfl
theorem yV {E R:List (Int×Int)} (hE:E.Pairwise Ej) (hR:R.Nodup) (hs:∀ x∈R,x∈E) (uQ:R.length < 64):fw [.list (R.map dC)]=some ((E.filter fun x=>decide (x∈R)).map dC):=by
 obtain ⟨r,hr⟩:=Ei (R.map E8)
 have fR:∀ i∈r,i < R.length:=fun i hi=>by
  have:=List.mem_range.mp (hr.1.mem_iff.mp hi)
  rwa [List.length_map] at this
 have e1:yp (R.map dC) (R.map fun x=>.tuple [.int (x.1 + x.2),.int x.1])=some (r.map fun i=>(R.map dC).getD i .none):=
  z5 (by rw [List.length_map]; exact uQ) ⟨R,.inr rfl,hR⟩ (.inr (by rw [List.map_map]; rfl)) hr
 have e2:(r.map fun i=>(R.map dC).getD i .none)=(r.map fun i=>R.getD i (0,0)).map dC:=by
  rw [List.map_map]
  exact List.map_congr_left fun i hi=>getD_map dC R (0,0) i (fR i hi)
 have gk:∀ i,i < R.length->(R.map E8).getD i (0,0)=E8 (R.getD i (0,0)):=fun i hi=>by
  rw [List.getD_eq_getElem?_getD,List.getD_eq_getElem?_getD,List.getElem?_map,List.getElem?_eq_getElem hi]; rfl
 have e3:(r.map fun i=>R.getD i (0,0))=E.filter fun x=>decide (x∈R):=by
  refine pw_ext Ao Lj ?_ (List.Pairwise.filter _ hE) fun z=>?_
  ·rw [List.pairwise_map]
   refine List.Pairwise.imp_of_mem (fun {i j} hi hj z=>?_) hr.2
   rw [gk i (fR i hi),gk j (fR j hj)] at z
   rcases z with z | ⟨z,z'⟩
   ·exact z
   ·have:=Hb z
    rw [List.getD_eq_getElem?_getD,List.getD_eq_getElem?_getD,List.getElem?_eq_getElem (fR i hi),List.getElem?_eq_getElem (fR j hj)] at this
    have:=(List.getElem?_inj (i:=i) (j:=j) (fR i hi) hR).mp (by rw [List.getElem?_eq_getElem (fR i hi),List.getElem?_eq_getElem (fR j hj)]; exact congrArg some this)
    omega
  ·rw [List.mem_filter,decide_eq_true_iff]
   constructor
   ·intro h
    obtain ⟨i,hi,rfl⟩:=List.mem_map.mp h
    have:R.getD i (0,0)∈R:=by
     rw [List.getD_eq_getElem?_getD,List.getElem?_eq_getElem (fR i hi)]; exact List.getElem_mem _
    exact ⟨hs _ this,this⟩
   ·rintro ⟨_,h⟩
    obtain ⟨i,hi,e⟩:=List.getElem_of_mem h
    refine List.mem_map.mpr ⟨i,hr.1.mem_iff.mpr (List.mem_range.mpr (by rw [List.length_map]; exact hi)),?_⟩
    rw [List.getD_eq_getElem?_getD,List.getElem?_eq_getElem hi]; exact e
 rw [yE]
 refine bb (ret (.list ((E.filter fun x=>decide (x∈R)).map dC)) (bP ?_) (.mk rfl rfl))
 rw [<- e3,<- e2]
 refine wK (Li rfl) rfl (uk dC (fun x=>.tuple [.int (x.1 + x.2),.int x.1]) R fun x _=>?_) e1
 exact jD (ak (ak rfl rfl tV) (ak rfl rfl wb) rfl) (ak rfl rfl tV)
theorem Lk (m:Nat) (h:1<=m):Sz m (1,1):=⟨⟨by decide,by decide⟩,bD (dq (m:=1) (by decide)) h,bD (dq (m:=1) (by decide)) h⟩
structure He (l h c:Int):Prop where
 p1:0 < l
 p2:l < h
 p3:h < c
 p4:c < 2 ^ 40
theorem uo {s:iX} (hs:Bz s) (yW:bt s.2<=40):bt s.1<=40 /\ bt (s.2 - s.1)<=40:=by
 have hp:=hs.pos
 have hl:=hs.ON
 exact ⟨eY (by omega) yW,eY (by omega) yW⟩
theorem pw_bt {u:Int} {k:Nat} (h:bt u<=40) (hk:k<=24):bt (u ^ k)<=961:=bD (yt h _) (by omega)
theorem El {l h c:Int} (H:He l h c):bt (aX l c).2<=40 /\ bt (aX h c).2<=40 /\ Bz (aX l c) /\ Bz (aX h c) /\ bt c<=40:=by
 have ⟨a1,a2,a3,a4⟩:=H
 have bc:bt c<=40:=dq (by omega)
 exact ⟨eY ((bI (t:=l) (show c≠0 by omega)).bot_le (by omega)) bc,eY ((bI (t:=h) (show c≠0 by omega)).bot_le (by omega)) bc,qk a1 (by omega),qk (by omega) a3,bc⟩
theorem uq (b g:Nat) (s:iX) (hs:Bz s) (yW:bt s.2<=40) (hb:b<=24) (hg:g<=24):Sz 1922 (jT b g s):=by
 obtain ⟨t1,t2⟩:=uo hs yW
 exact ⟨pd hs b g,g8 (pw_bt t1 hb) (pw_bt t2 hg),g8 (pw_bt yW hb) (pw_bt yW hg)⟩
theorem pk (b g:Nat) (s:iX) (hs:Bz s) (yW:bt s.2<=40) (hb:b<=24) (hg:g<=24):ij [.tuple [.int (b:Nat),.int (g:Nat)],dF s]=some (dF (jT b g s)):=by
 rw [GR]
 refine bb ?_
 obtain ⟨t1,t2⟩:=uo hs yW
 have vp:=wF s b (bD t1 (by decide)) (bD yW (by decide)) (by omega)
 have vm:=Eb (1,1) s (Lk 4000 (by decide)) ⟨hs.low,bD t1 (by decide),bD yW (by decide)⟩
 rw [DL hs] at vm
 have vq:=wF (s.2 - s.1,s.2) g (bD t2 (by decide)) (bD yW (by decide)) (by omega)
 refine aM [some (.tuple [.int (b:Nat),.int (g:Nat)]),some (dF s),some (dF (s.1 ^ b,s.2 ^ b)),none] (aP (call_of (cons_of rfl (cons_of (ak rfl rfl tV) rfl)) rfl vp)) ?_
 refine aM [some (.tuple [.int (b:Nat),.int (g:Nat)]),some (dF s),some (dF (s.1 ^ b,s.2 ^ b)),some (dF ((s.2 - s.1) ^ g,s.2 ^ g))] (aP (call_of (cons_of (call_of (cons_of rfl (cons_of rfl rfl)) rfl vm) (cons_of (ak rfl rfl wb) rfl)) rfl vq)) ?_
 exact ret (dF (jT b g s)) (jD (ak (ak rfl rfl (fm _)) (ak rfl rfl (fm _)) (cB (cx (pw_bt t1 hb) (pw_bt t2 hg)))) (ak (ak rfl rfl (dX _)) (ak rfl rfl (dX _)) (cB (cx (pw_bt yW hb) (pw_bt yW hg))))) (.mk rfl rfl)
theorem ko (lo hi:iX) (h1:Bz lo) (h2:Bz hi) (b1:bt lo.2<=40) (b2:bt hi.2<=40) (fR:lo.1 * hi.2 < hi.1 * lo.2):cF [dF lo,dF hi]=some .none:=by
 rw [qr]
 have p1:=h1.pos
 have p2:=h2.pos
 have q1:=h1.ON
 have q2:=h2.ON
 obtain ⟨t1,_⟩:=uo h1 b1
 obtain ⟨t2,_⟩:=uo h2 b2
 have o0:bt (0:Int)<=40:=dq (by decide)
 have o1:bt (1:Int)<=40:=dq (by decide)
 have u1:=ji (0,1) lo (cx o0 b1) (cx t1 o1)
 have u2:=ji lo hi (cx t1 b2) (cx t2 b1)
 have u3:=ji hi (1,1) (cx t2 o1) (cx o1 b2)
 rw [decide_eq_true (by omega)] at u1 u3
 rw [decide_eq_true fR] at u2
 have:fY [some (dF lo),some (dF hi)]=some (.nx [some (dF lo),some (dF hi)]):=
  sD (kL (nZ (fg (call_of (cons_of rfl (cons_of rfl rfl)) rfl u1)) (nZ (fg (call_of (cons_of rfl (cons_of rfl rfl)) rfl u2)) (fg (call_of (cons_of rfl (cons_of rfl rfl)) rfl u3)))))
 rw [this]
 rfl
theorem Em {l h c:Int} (h1:0 < l) (h2:l < h) (h3:h < c):(aX l c).1 * (aX h c).2 < (aX h c).1 * (aX l c).2:=by
 have e1:=(bI (t:=l) (show c≠0 by omega)).eq
 have e2:=(bI (t:=h) (show c≠0 by omega)).eq
 have p1:=(bI (t:=l) (show c≠0 by omega)).pos
 have p2:=(bI (t:=h) (show c≠0 by omega)).pos
 generalize aX l c=a at *
 generalize aX h c=b at *
 refine Int.lt_of_mul_lt_mul_right (a:=c) ?_ (by omega)
 have k1:a.1 * b.2 * c=(a.2 * b.2) * l:=by
  have:a.1 * b.2 * c=a.1 * c * b.2:=by grind
  rw [this,e1]; grind
 have k2:b.1 * a.2 * c=(a.2 * b.2) * h:=by
  have:b.1 * a.2 * c=b.1 * c * a.2:=by grind
  rw [this,e2]; grind
 rw [k1,k2]
 exact Int.mul_lt_mul_of_pos_left h2 (Int.mul_pos (by omega) (by omega))
theorem ur {l h c:Int} (H:He l h c) (b g:Nat) (hb:b<=24) (hg:g<=24):ng [.tuple [.int (b:Nat),.int (g:Nat)],dF (aX l c),dF (aX h c)]=some (dF (rat b g (aX l c) (aX h c))) /\ Sz 3844 (rat b g (aX l c) (aX h c)):=by
 obtain ⟨b1,b2,s1,s2,_⟩:=El H
 have z1:=uq b g _ s1 b1 hb hg
 have z2:=uq b g _ s2 b2 hb hg
 have p1:=z8 s1 b g
 have vo:=G8 (jT b g (aX h c)) (jT b g (aX l c)) (z2.up (by decide)) (z1.up (by decide)) (by omega)
 have lw:LV ((jT b g (aX l c)).2,(jT b g (aX l c)).1):=⟨by show 1<=(jT b g (aX l c)).1; omega,by show Int.gcd _ _=1; rw [Int.gcd_comm]; exact z1.low.2⟩
 have e:aX (jT b g (aX l c)).2 (jT b g (aX l c)).1=((jT b g (aX l c)).2,(jT b g (aX l c)).1):=v9 lw
 rw [e] at vo
 refine ⟨?_,La z2 ⟨lw,z1.bot,z1.top⟩⟩
 rw [GS]
 refine bb ?_
 refine aM [some (.tuple [.int (b:Nat),.int (g:Nat)]),some (dF (aX l c)),some (dF (aX h c))] ?_ (ret _ (call_of (cons_of (call_of (cons_of rfl (cons_of rfl rfl)) rfl (pk b g _ s2 b2 hb hg)) (cons_of (call_of (cons_of rfl (cons_of rfl rfl)) rfl (pk b g _ s1 b1 hb hg)) rfl)) rfl vo) (.mk rfl rfl))
 exact ug (call_of (cons_of rfl (cons_of rfl rfl)) rfl (ko _ _ s1 s2 b1 b2 (Em H.p1 H.p2 H.p3)))
theorem uu (m:iX) (hm:Sz 40 m) (h0:0<=m.1) (h1:m.1<=m.2):fZ [dF m]=some .none:=by
 rw [t8]
 have p:=hm.low.1
 have o0:bt (0:Int)<=40:=dq (by decide)
 have o1:bt (1:Int)<=40:=dq (by decide)
 have u1:=ji m (0,1) (cx hm.top o1) (cx o0 hm.bot)
 have u2:=ji (1,1) m (cx o1 hm.bot) (cx hm.top o1)
 rw [decide_eq_false (by show ¬ m.1 * 1 < 0 * m.2; omega)] at u1
 rw [decide_eq_false (by show ¬ 1 * m.2 < m.1 * 1; omega)] at u2
 have:ik [some (dF m)]=some (.nx [some (dF m)]):=sD (we (fg (call_of (cons_of rfl (cons_of rfl rfl)) rfl u1)) (fg (call_of (cons_of rfl (cons_of rfl rfl)) rfl u2)))
 rw [this]
 rfl
theorem N3 {f:D->Option D} {g:DS->Option D} {δ:DS} {x:D} {r:Option D} (h:g δ=some x) (h2:f x=r):g1 f g δ=r:=by unfold g1; rw [h]; exact h2
theorem En {α:Type} {t:D->DS->Option DS} {b:DS->Option Res} (enc:α->D) (W:Nat->DS->Prop) (P:D->Prop):∀ (xs:List α) (k:Nat) {δ:DS},W k δ->(∀ i x δ,xs[i]?=some x->W (k + i) δ->∃ dW,t (enc x) δ=some dW /\ ((∃ δ',b dW=some (.nx δ') /\ W (k + i + 1) δ') \/ ∃ d,b dW=some (.rt d) /\ P d))->
  (∃ δ',jV t b (xs.map enc) δ=some (.nx δ') /\ W (k + xs.length) δ') \/ ∃ d,jV t b (xs.map enc) δ=some (.rt d) /\ P d
 | [],k,δ,h,_=>.inl ⟨δ,rfl,h⟩
 | x :: xs,k,δ,h,hs=>by
   obtain ⟨dW,e1,h1⟩:=hs 0 x δ rfl h
   rw [List.map_cons,jV,e1]
   rcases h1 with ⟨δ',e2,h2⟩ | ⟨d,e2,h2⟩
   ·show (∃ δ',(b dW).bind _=_ /\ _) \/ ∃ d,(b dW).bind _=_ /\ _
    rw [e2]
    have:=En enc W P xs (k + 1) (δ:=δ') h2 fun i y δ hy hw=>by
     have:=hs (i + 1) y δ hy (by rw [show k + (i + 1)=k + 1 + i by omega]; exact hw)
     rwa [show k + (i + 1) + 1=k + 1 + i + 1 by omega] at this
    rw [show k + (x :: xs).length=k + 1 + xs.length by rw [List.length_cons]; omega]
    exact this
   ·right
    refine ⟨d,?_,h2⟩
    show (b dW).bind _=_
    rw [e2]; rfl
theorem Eo {α:Type} {t:D->DS->Option DS} {gi:DS->Option (List D)} {b rest:DS->Option Res} {β:Type} {f:Res->Option β} {R:β->Prop} {δ:DS} (enc:α->D) (xs:List α) (W:Nat->DS->Prop) (P:D->Prop) (hi:gi δ=some (xs.map enc)) (h:W 0 δ)
  (hs:∀ i x δ,xs[i]?=some x->W i δ->∃ dW,t (enc x) δ=some dW /\ ((∃ δ',b dW=some (.nx δ') /\ W (i + 1) δ') \/ ∃ d,b dW=some (.rt d) /\ P d)) (k1:∀ δ',W xs.length δ'->d8 ((rest δ').bind f) R) (k2:∀ d,P d->d8 (f (.rt d)) R):d8 ((aD (d3 gi t b) rest δ).bind f) R:=by
 rcases En (t:=t) (b:=b) enc W P xs 0 h (fun i x δ hx hw=>by rw [Nat.zero_add] at hw ⊢; exact hs i x δ hx hw) with ⟨δ',e,hw⟩ | ⟨d,e,hp⟩
 ·rw [jw (δ':=δ') (by unfold d3; rw [hi]; exact e)]
  rw [Nat.zero_add] at hw
  exact k1 δ' hw
 ·have:aD (d3 gi t b) rest δ=some (.rt d):=by
   unfold aD d3
   rw [hi]
   show (jV t b (xs.map enc) δ).bind _=_
   rw [e]; rfl
  rw [this]
  exact k2 d hp
theorem uv:∀ (l:List iX) (B M:Nat),B ∣ M->(∀ q∈l,q.2.natAbs ∣ M)->g7 l B ∣ M
 | [],B,M,h,_=>h
 | q :: l,B,M,h,k=>uv l _ M (Nat.lcm_dvd h (k q List.mem_cons_self)) fun r hr=>k r (List.mem_cons_of_mem _ hr)
theorem N4 (l:List iX) (M:Nat) (hM:0 < M) (hb:bt (M:Int)<=3990) (hp:∀ q∈l,1<=q.2) (hd:∀ q∈l,q.2 ∣ (M:Int)):dH [dP l]=some (.int (g7 l 1:Nat)) /\ bt ((g7 l 1:Nat):Int)<=3990:=by
 have QS:∀ q∈l,q.2.natAbs ∣ M:=fun q hq=>by
  have:=Int.natAbs_dvd_natAbs.mpr (hd q hq)
  rwa [Int.natAbs_natCast] at this
 have small:∀ B:Nat,B ∣ M->bt (B:Int)<=3990:=fun B h=>eY (by rw [Int.natAbs_natCast,Int.natAbs_natCast]; exact Nat.le_of_dvd hM h) hb
 have pre:∀ i,g7 (l.take i) 1 ∣ M:=fun i=>uv _ _ _ (Nat.one_dvd _) fun q hq=>QS q (List.mem_of_mem_take hq)
 refine ⟨?_,small _ (uv _ _ _ (Nat.one_dvd _) QS)⟩
 rw [oQ]
 refine bb ?_
 refine aM [some (dP l),some (.int 1),none] rfl ?_
 refine gN dF l (fun i δ=>∃ (x:Option D),δ=[some (dP l),some (.int (g7 (l.take i) 1:Nat)),x]) rfl ⟨none,rfl⟩ ?_ ?_
 ·rintro i q δ hq ⟨x,rfl⟩
  have hm:=List.mem_of_getElem? hq
  have h2:=hp q hm
  have hB:0 < g7 (l.take i) 1:=qh _ 1 (by decide) fun q hq=>by have:=hp q (List.mem_of_mem_take hq); omega
  have e1:g7 (l.take (i + 1)) 1=Nat.lcm (g7 (l.take i) 1) q.2.natAbs:=by
   rw [List.take_succ,hq]
   show g7 (l.take i ++ [q]) 1=_
   rw [DJ]; rfl
  have hb:bt ((g7 (l.take i) 1:Nat):Int)<=3990:=small _ (pre i)
  generalize g7 (l.take i) 1=B at *
  obtain ⟨c,hc⟩:∃ c:Nat,q.2=c:=⟨q.2.toNat,by omega⟩
  have h3:bt (c:Int)<=3990:=small c (by have:=QS q hm; rwa [hc,Int.natAbs_natCast] at this)
  have hg:0 < Nat.gcd B c:=Nat.gcd_pos_of_pos_left _ hB
  have ZR:bt ((Nat.gcd B c:Nat):Int)<=3990:=by
   refine eY ?_ h3
   have:=Nat.le_of_dvd (by omega) (Nat.gcd_dvd_right B c)
   omega
  have ZS:bt ((B / Nat.gcd B c:Nat):Int)<=3990:=eY (by rw [Int.natAbs_natCast,Int.natAbs_natCast]; exact Nat.div_le_self _ _) hb
  have ed:B / Nat.gcd B c * c=Nat.lcm B c:=by
   unfold Nat.lcm
   obtain ⟨k,hk⟩:=Nat.gcd_dvd_left B c
   conv=>lhs; lhs; lhs; rw [hk]
   conv=>rhs; lhs; rw [hk]
   rw [Nat.mul_div_cancel_left _ hg,Nat.mul_assoc,Nat.mul_div_cancel_left _ hg]
  have i1:bu (dF q) (.int 1)=some (.int (c:Nat)):=by rw [dX,hc]
  refine ⟨_,[some (dP l),some (.int (g7 (l.take (i + 1)) 1:Nat)),some (dF q)],rfl,?_,some (dF q),rfl⟩
  rw [e1,hc,Int.natAbs_natCast,<- ed]
  refine aP (ak (ak rfl (call_of (cons_of rfl (cons_of (ak rfl rfl i1) rfl)) rfl (yS _ _ (bD h3 (by decide)))) (oG (a:=(B:Int)) (b:=((Nat.gcd B c:Nat):Int)) (by omega) (bD ZR (by decide)))) (ak rfl rfl i1) ?_)
  rw [<- Int.natCast_ediv,cB (cx ZS h3),<- Int.natCast_mul]
 ·rintro δ' ⟨x,rfl⟩
  rw [List.take_length]
  exact ret _ rfl (.mk rfl rfl)
theorem Hf {x y:iX} {B:Int} (hB:0 < B) (hx:1<=x.2) (hy:1<=y.2) (dx:x.2 ∣ B) (dy:y.2 ∣ B) (h:y.1 * (B / y.2)<=x.1 * (B / x.2)):y.1 * x.2<=x.1 * y.2:=by
 obtain ⟨k,hk⟩:=dx
 obtain ⟨m,hm⟩:=dy
 rw [show B / x.2=k by rw [hk,Int.mul_comm]; exact Int.mul_ediv_cancel _ (by omega),show B / y.2=m by rw [hm,Int.mul_comm]; exact Int.mul_ediv_cancel _ (by omega)] at h
 refine Int.le_of_mul_le_mul_right (a:=B) ?_ hB
 have h2:y.1 * m * (x.2 * y.2)<=x.1 * k * (x.2 * y.2):=Int.mul_le_mul_of_nonneg_right h (Int.mul_nonneg (by omega) (by omega))
 have e1:y.1 * m * (x.2 * y.2)=y.1 * x.2 * B:=by rw [hm]; grind
 have e2:x.1 * k * (x.2 * y.2)=x.1 * y.2 * B:=by rw [hk]; grind
 rw [e1,e2] at h2
 exact h2
theorem Ep {α:Type} (enc:α->D) (rt:α->iX) (E:List α) (z:α) (M:Nat) (hM:0 < M) (XB:bt (M:Int)<=3990) (h1:∀ a∈E,bu (enc a) (.int 1)=some (dF (rt a))) (h2:∀ a∈E,1<=(rt a).2 /\ (rt a).2 ∣ (M:Int) /\ bt (rt a).1<=9000) (uQ:E.length < 64):
  ∃ F:List α,cG [.list (E.map enc)]=some (F.map enc) /\ F.Perm E /\ F.Pairwise fun a b=>(rt b).1 * (rt a).2<=(rt a).1 * (rt b).2:=by
 have hp:∀ q∈E.map rt,1<=q.2:=fun q hq=>by obtain ⟨a,ha,rfl⟩:=List.mem_map.mp hq; exact (h2 a ha).1
 have hd:∀ q∈E.map rt,q.2 ∣ (M:Int):=fun q hq=>by obtain ⟨a,ha,rfl⟩:=List.mem_map.mp hq; exact (h2 a ha).2.1
 obtain ⟨v1,b1⟩:=N4 (E.map rt) M hM XB hp hd
 have ZT:∀ q∈E.map rt,bt q.2<=9000:=fun q hq=>bD (eY (bJ (hd q hq) (by omega)) XB) (by decide)
 have hBp:0 < g7 (E.map rt) 1:=qh _ 1 (by decide) fun q hq=>by have:=hp q hq; omega
 have XC:=(wa (E.map rt) 1).2
 obtain ⟨v2,b2⟩:=Ha (E.map rt) (g7 (E.map rt) 1) hp ZT (fun q hq=>by obtain ⟨a,ha,rfl⟩:=List.mem_map.mp hq; exact bD (h2 a ha).2.2 (by decide)) (bD b1 (by decide)) (by rw [List.length_map]; omega)
 generalize g7 (E.map rt) 1=B at *
 have eT:wI (E.map rt) B=E.map fun a=>(rt a).1 * ((B:Int) / (rt a).2):=by unfold wI; rw [List.map_map]; rfl
 rw [eT] at v2
 generalize hT:(fun a:α=>(rt a).1 * ((B:Int) / (rt a).2))=T at v2
 obtain ⟨r,hr⟩:=Ei ((List.range E.length).map fun i=>(-(T (E.getD i z)),0))
 have E7:∀ i∈r,i < E.length:=fun i hi=>by
  have:=List.mem_range.mp (hr.1.mem_iff.mp hi)
  rwa [List.length_map,List.length_range] at this
 have gE:∀ i,i < E.length->E[i]?=some (E.getD i z):=fun i hi=>by rw [List.getD_eq_getElem?_getD,List.getElem?_eq_getElem hi]; rfl
 have XD:∀ i,i < E.length->((List.range E.length).map fun i=>((-(T (E.getD i z)),0):KS.T2)).getD i (0,0)=(-(T (E.getD i z)),0):=fun i hi=>by
  rw [List.getD_eq_getElem?_getD,List.getElem?_map,List.getElem?_range hi]; rfl
 refine ⟨r.map fun i=>E.getD i z,?_,?_,?_⟩
 ·rw [lW]
  refine bb ?_
  refine aM [some (.list (E.map enc)),some (dP (E.map rt)),none,none] (aP (bP ?_)) ?_
  ·show fU _ _ _ _=some ((E.map rt).map dF)
   rw [List.map_map]
   exact kK enc (fun a=>dF (rt a)) id E rfl (by omega) (fun a ha=>ak rfl rfl (h1 a ha)) |>.trans (by rw [List.map_id]; rfl)
  refine aM [some (.list (E.map enc)),some (dP (E.map rt)),some (.list ((E.map T).map .int)),none] (aP (bP (gX (cons_of rfl (cons_of (call_of (cons_of rfl rfl) rfl v1) rfl)) rfl v2))) ?_
  refine aM [some (.list (E.map enc)),some (dP (E.map rt)),some (.list ((E.map T).map .int)),some (.list (r.map fun i:Nat=>.int (0 + i)))] (aP (bP ?_)) ?_
  ·have e1:(r.map fun i=>(((List.range E.length).map fun i:Nat=>(PyData.int (0 + i))):List D).getD i .none)=r.map fun i:Nat=>.int (0 + i):=List.map_congr_left fun i hi=>by
    rw [List.getD_eq_getElem?_getD,List.getElem?_map,List.getElem?_range (E7 i hi)]; rfl
   rw [<- e1]
   refine wK (Lh (cons_of (sF (cons_of rfl rfl) (by show some (PyData.int _)=_; rw [List.length_map])) rfl) (by omega)) rfl (uk (fun i:Nat=>.int (0 + i)) (fun i=>.int (-(T (E.getD i z)))) _ fun i hi=>?_) (z5 (by rw [List.length_map,List.length_range]; exact uQ) ?_ (.inl ⟨(List.range E.length).map fun i=> -(T (E.getD i z)),by rw [List.map_map]; rfl,by rw [List.map_map]; rfl⟩) hr)
   ·have hi:=List.mem_range.mp hi
    have:bu (.list ((E.map T).map .int)) (.int (0 + (i:Int)))=some (.int (T (E.getD i z))):=by
     rw [Int.zero_add]
     exact h9 (by rw [List.getElem?_map,List.getElem?_map,gE i hi]; rfl)
    show g1 xK _ _=_
    exact N3 (ak rfl rfl this) rfl
   ·refine ⟨((List.range E.length).map fun i:Nat=>((0 + i:Int),0)),.inl ⟨(List.range E.length).map fun i:Nat=>(0 + i:Int),by rw [List.map_map]; rfl,by rw [List.map_map]; rfl⟩,?_⟩
    rw [List.Nodup,List.pairwise_map]
    refine List.nodup_range.imp fun {i j} h e=>h ?_
    have:=congrArg Prod.fst e
    simp only at this
    omega
  ·refine ret (.list ((r.map fun i=>E.getD i z).map enc)) (bP ?_) (.mk rfl rfl)
   exact kK (fun i:Nat=>.int (0 + i)) enc (fun i=>E.getD i z) r rfl (by rw [hr.1.length_eq,List.length_range,List.length_map,List.length_range]; omega) fun i hi=>ak rfl rfl (by
    rw [Int.zero_add]
    exact h9 (by rw [List.getElem?_map,gE i (E7 i hi)]; rfl))
 ·refine (hr.1.map _).trans (List.Perm.of_eq ?_)
  rw [List.length_map,List.length_range]
  refine List.ext_getElem (by simp) fun i h1 h2=>?_
  rw [List.getElem_map,List.getElem_range,List.getD_eq_getElem?_getD,List.getElem?_eq_getElem h2]; rfl
 ·rw [List.pairwise_map]
  refine List.Pairwise.imp_of_mem (fun {i j} hi hj w=>?_) hr.2
  rw [XD i (E7 i hi),XD j (E7 j hj)] at w
  have hle:T (E.getD j z)<=T (E.getD i z):=by
   rcases w with w | ⟨w,_⟩
   ·unfold KS.jZ at w; simp only at w; omega
   ·have:=congrArg Prod.fst w; simp only at this; omega
  rw [<- hT] at hle
  have mi:=List.mem_of_getElem? (gE i (E7 i hi))
  have mj:=List.mem_of_getElem? (gE j (E7 j hj))
  exact Hf (by omega) (h2 _ mi).1 (h2 _ mj).1 (XC _ (List.mem_map.mpr ⟨_,mi,rfl⟩)) (XC _ (List.mem_map.mpr ⟨_,mj,rfl⟩)) hle
theorem Ll {a b:DS->Option Res} {δ:DS} {d:D} (h:a δ=some (.rt d)):aD a b δ=some (.rt d):=by unfold aD; rw [h]; rfl
theorem Lm {c:DS->Option Bool} {a b:DS->Option Res} {δ:DS} {r:Option Res} (h:c δ=some true) (h2:a δ=r):jq c a b δ=r:=by unfold jq; rw [h]; exact h2
theorem Ln {g:DS->Option D} {δ:DS} {d:D} (h:g δ=some d):bH g δ=some (.rt d):=by unfold bH; rw [h]; rfl
theorem sH {a b U:Int} (hU:U≠0):tP (aX a U) (aX b U)=aX (a + b) U:=by
 rw [GB hU hU]
 refine m8 (Int.mul_ne_zero hU hU) hU ?_
 grind
theorem Er {m:iX} {t U:Int} (hU:0 < U):m.1 * (aX t U).2 < (aX t U).1 * m.2↔m.1 * U < t * m.2:=by
 have e:=(bI (t:=t) (show U≠0 by omega)).eq
 have p:=(bI (t:=t) (show U≠0 by omega)).pos
 generalize aX t U=q at *
 have k:(q.1 * m.2) * U=(t * m.2) * q.2:=by
  have:(q.1 * m.2) * U=(q.1 * U) * m.2:=by grind
  rw [this,e]; grind
 have k2:(m.1 * q.2) * U=(m.1 * U) * q.2:=by grind
 constructor
 ·intro h
  have:(m.1 * q.2) * U < (q.1 * m.2) * U:=Int.mul_lt_mul_of_pos_right h hU
  rw [k,k2] at this
  exact Int.lt_of_mul_lt_mul_right this (by omega)
 ·intro h
  have:(m.1 * U) * q.2 < (t * m.2) * q.2:=Int.mul_lt_mul_of_pos_right h (by omega)
  rw [<- k,<- k2] at this
  exact Int.lt_of_mul_lt_mul_right this (by omega)
theorem qA {M:Nat}:∀ (l:List Int),(∀ x∈l,x.natAbs<=M)->l.sum.natAbs<=l.length * M
 | [],_=>by simp
 | x :: l,h=>by
   have h1:=h x List.mem_cons_self
   have h2:=qA l fun y hy=>h y (List.mem_cons_of_mem _ hy)
   rw [List.sum_cons,List.length_cons,Nat.succ_mul]
   have:=Int.natAbs_add_le x l.sum
   omega
theorem yX {l:List Int} {m:Nat} (h:∀ x∈l,bt x<=m) (hl:l.length < 64):bt l.sum<=m + 6:=by
 refine dq ?_
 have h1:=qA (M:=2 ^ m) l fun x hx=>Nat.le_of_lt (NR (h x hx))
 have h2:l.length * 2 ^ m < 64 * 2 ^ m:=Nat.mul_lt_mul_of_pos_right hl (Nat.two_pow_pos m)
 rw [Nat.pow_add]
 omega
def xo (rt:Int×Int->iX) (lo hi:Int×Int->Int) (U:Int) (e:Int×Int):D:=.tuple [dC e,dF (rt e),dF (aX (lo e) U),dF (aX (hi e) U)]
def BK (rt:Int×Int->iX):List (Int×Int)->iX
 | []=>(0,1)
 | e :: _=>rt e
theorem ix4_0 {a b c d:D}:bu (.tuple [a,b,c,d]) (.int 0)=some a:=rfl
theorem ix4_1 {a b c d:D}:bu (.tuple [a,b,c,d]) (.int 1)=some b:=rfl
theorem uw {a b c d:DS->Option D} {δ:DS} {x y z w:D} (h1:a δ=some x) (h2:b δ=some y) (h3:c δ=some z) (h4:d δ=some w):aW (aa a (aa b (aa c (aa d ai)))) δ=some (.tuple [x,y,z,w]):=by
 unfold aW
 rw [cons_of h1 (cons_of h2 (cons_of h3 (cons_of h4 rfl)))]; rfl
theorem Hg (rt:Int×Int->iX) (lo hi:Int×Int->Int) {U:Int} (hU:0 < U) (bU:bt U<=3000) (E F:List (Int×Int)) (m:iX) (hm:Sz 40 m) (h0:0<=m.1) (hE:E.Pairwise Ej) (z4:F.Nodup) (hs:∀ x∈F,x∈E) (uQ:F.length < 64)
  (hb:∀ e∈F,bt (lo e)<=3000 /\ bt (hi e)<=3000):∃ R S,F=R ++ S /\ kN [.list (F.map (xo rt lo hi U)),dF m]=some (.tuple [.list ((E.filter fun x=>decide (x∈R)).map dC),dF (BK rt S),dF (aX (R.map lo).sum U),dF (aX (R.map hi).sum U)]) /\ (R.map lo).sum * m.2<=m.1 * U:=by
 have bs:∀ (f:Int×Int->Int) (i:Nat),(∀ e∈F,bt (f e)<=3000)->bt ((F.take i).map f).sum<=3006:=fun f i hf=>yX (fun x hx=>by
  obtain ⟨e,he,rfl⟩:=List.mem_map.mp hx
  exact hf e (List.mem_of_mem_take he)) (by rw [List.length_map,List.length_take]; omega)
 have Ow:∀ e∈F,bt (lo e)<=3000:=fun e he=>(hb e he).1
 have XE:∀ e∈F,bt (hi e)<=3000:=fun e he=>(hb e he).2
 have N5:∀ {t:Int},bt t<=3006->Sz 4000 (aX t U):=fun {t} h=>wD (by omega) (bD h (by decide)) (bD bU (by decide))
 have io:∀ i,fw [.list ((F.take i).map dC)]=some ((E.filter fun x=>decide (x∈F.take i)).map dC):=fun i=>
  yV hE (z4.sublist (List.take_sublist i F)) (fun x hx=>hs x (List.mem_of_mem_take hx)) (by rw [List.length_take]; omega)
 have q0:(0,1)=aX 0 U:=((DH (t:=0) (show U≠0 by omega)).mpr rfl).symm
 suffices key:d8 (kN [.list (F.map (xo rt lo hi U)),dF m]) fun d=>∃ R S,F=R ++ S /\ d=.tuple [.list ((E.filter fun x=>decide (x∈R)).map dC),dF (BK rt S),dF (aX (R.map lo).sum U),dF (aX (R.map hi).sum U)] /\ (R.map lo).sum * m.2<=m.1 * U by
  obtain ⟨_,e,R,S,h1,rfl,h2⟩:=key
  exact ⟨R,S,h1,e,h2⟩
 rw [GU]
 refine aM [some (.list (F.map (xo rt lo hi U))),some (dF m),some (.list []),none,none,none,none,none,none,none] rfl ?_
 refine aM [some (.list (F.map (xo rt lo hi U))),some (dF m),some (.list []),some (dF (0,1)),none,none,none,none,none,none] rfl ?_
 refine aM [some (.list (F.map (xo rt lo hi U))),some (dF m),some (.list []),some (dF (0,1)),some (dF (0,1)),none,none,none,none,none] rfl ?_
 refine Eo (xo rt lo hi U) F (fun i δ=>((F.take i).map lo).sum * m.2<=m.1 * U /\ ∃ a b c d e:Option D,δ=[some (.list (F.map (xo rt lo hi U))),some (dF m),some (.list ((F.take i).map dC)),some (dF (aX ((F.take i).map lo).sum U)),some (dF (aX ((F.take i).map hi).sum U)),a,b,c,d,e])
  (fun d=>∃ R S,F=R ++ S /\ d=.tuple [.list ((E.filter fun x=>decide (x∈R)).map dC),dF (BK rt S),dF (aX (R.map lo).sum U),dF (aX (R.map hi).sum U)] /\ (R.map lo).sum * m.2<=m.1 * U) rfl ?_ ?_ ?_ ?_
 ·refine ⟨?_,none,none,none,none,none,?_⟩
  ·show (0:Int) * m.2<=m.1 * U
   rw [Int.zero_mul]; exact Int.mul_nonneg h0 (by omega)
  ·show _=[_,_,some (.list []),some (dF (aX 0 U)),some (dF (aX 0 U)),none,none,none,none,none]
   rw [<- q0]
 ·rintro i e δ he ⟨hle,a,b,c,d,x,rfl⟩
  have Gs:=List.mem_of_getElem? he
  have Gh:i < F.length:=(List.getElem?_eq_some_iff.mp he).1
  have et:F.take (i + 1)=F.take i ++ [e]:=by rw [List.take_add_one,he]; rfl
  have OR:((F.take (i + 1)).map lo).sum=((F.take i).map lo).sum + lo e:=by rw [et,List.map_append,List.sum_append]; simp
  have ZU:((F.take (i + 1)).map hi).sum=((F.take i).map hi).sum + hi e:=by rw [et,List.map_append,List.sum_append]; simp
  have vp:=uh (aX ((F.take i).map lo).sum U) (aX (lo e) U) (N5 (bs lo i Ow)) (N5 (bD (Ow e Gs) (by decide)))
  rw [sH (by omega),<- OR] at vp
  have vh:=uh (aX ((F.take i).map hi).sum U) (aX (hi e) U) (N5 (bs hi i XE)) (N5 (bD (XE e Gs) (by decide)))
  rw [sH (by omega),<- ZU] at vh
  have z:=N5 (bs lo (i + 1) Ow)
  have vu:=ji m (aX ((F.take (i + 1)).map lo).sum U) (cx hm.top z.bot) (cx z.top hm.bot)
  refine ⟨[some (.list (F.map (xo rt lo hi U))),some (dF m),some (.list ((F.take i).map dC)),some (dF (aX ((F.take i).map lo).sum U)),some (dF (aX ((F.take i).map hi).sum U)),some (dC e),some (dF (rt e)),some (dF (aX (lo e) U)),some (dF (aX (hi e) U)),x],rfl,?_⟩
  have s1:aS 9 (aK jy 2 (aa (ae 3) (aa (ae 7) ai))) [some (.list (F.map (xo rt lo hi U))),some (dF m),some (.list ((F.take i).map dC)),some (dF (aX ((F.take i).map lo).sum U)),some (dF (aX ((F.take i).map hi).sum U)),some (dC e),some (dF (rt e)),some (dF (aX (lo e) U)),some (dF (aX (hi e) U)),x]=some (.nx [some (.list (F.map (xo rt lo hi U))),some (dF m),some (.list ((F.take i).map dC)),some (dF (aX ((F.take i).map lo).sum U)),some (dF (aX ((F.take i).map hi).sum U)),some (dC e),some (dF (rt e)),some (dF (aX (lo e) U)),some (dF (aX (hi e) U)),some (dF (aX ((F.take (i + 1)).map lo).sum U))]):=aP (call_of (cons_of rfl (cons_of rfl rfl)) rfl vp)
  by_cases hc:m.1 * U < ((F.take (i + 1)).map lo).sum * m.2
  ·right
   rw [decide_eq_true ((Er hU).mpr hc)] at vu
   refine ⟨_,bV _ s1 ?_,F.take i,F.drop i,(List.take_append_drop i F).symm,rfl,hle⟩
   have er:BK rt (F.drop i)=rt e:=by rw [List.drop_eq_getElem_cons Gh]; rw [List.getElem?_eq_getElem Gh] at he; cases he; rfl
   rw [er]
   exact Ll (Lm (fg (call_of (cons_of rfl (cons_of rfl rfl)) rfl vu)) (Ln (uw (bP (md (cons_of rfl rfl) rfl (io i) (ui _))) rfl rfl rfl)))
  ·left
   rw [decide_eq_false fun w=>hc ((Er hU).mp w)] at vu
   refine ⟨_,bV _ s1 (bV _ (sD (fg (call_of (cons_of rfl (cons_of rfl rfl)) rfl vu))) (bV _ (ma rfl rfl (by rw [List.length_map,List.length_take]; omega)) (bV _ (aP rfl) (aP (call_of (cons_of rfl (cons_of rfl rfl)) rfl vh))))),by omega,some (dC e),some (dF (rt e)),some (dF (aX (lo e) U)),some (dF (aX (hi e) U)),some (dF (aX ((F.take (i + 1)).map lo).sum U)),?_⟩
   rw [show (F.take (i + 1)).map dC=(F.take i).map dC ++ [dC e] by rw [et,List.map_append]; rfl]
   rfl
 ·rintro δ' ⟨hle,a,b,c,d,x,rfl⟩
  rw [List.take_length] at hle
  have vi:=io F.length
  rw [List.take_length] at vi ⊢
  refine ret (.tuple [.list ((E.filter fun x=>decide (x∈F)).map dC),dF (0,1),dF (aX (F.map lo).sum U),dF (aX (F.map hi).sum U)]) (uw (bP (md (cons_of rfl rfl) rfl vi (ui _))) rfl rfl rfl) (.mk rfl ⟨F,[],by simp,rfl,hle⟩)
 ·rintro d ⟨R,S,h1,rfl,h2⟩
  exact .mk rfl ⟨R,S,h1,rfl,h2⟩
def bh (p:List (List Int)) (t c:Int) (e:Int×Int):Int:=cI p e.1 e.2 * c ^ (p.length - e.1.toNat - e.2.toNat) * (t ^ e.1.toNat * (c - t) ^ e.2.toNat)
def dM (l h c:Int) (e:Int×Int):iX:=rat e.1.toNat e.2.toNat (aX l c) (aX h c)
theorem Hh {t c:Int} (h1:0 < t) (h2:t < c) (b g:Nat):jT b g (aX t c)=aX (t ^ b * (c - t) ^ g) (c ^ b * c ^ g):=by
 have hs:=qk h1 h2
 have lw:=pd hs b g
 exact (⟨lw.1,lw.2,yr h1 h2 b g⟩:lz (jT b g (aX t c)).1 (jT b g (aX t c)).2 _ _).qm (Int.mul_ne_zero (Int.pow_ne_zero (by omega)) (Int.pow_ne_zero (by omega)))
theorem wN {p:List (List Int)} {e:Int×Int} {b g:Nat} (ok:qz p e b g) {t c:Int} (h1:0 < t) (h2:t < c):rm (cI p e.1 e.2,1) (jT b g (aX t c))=aX (bh p t c e) (c ^ p.length):=by
 have hb:e.1.toNat=b:=by rw [ok.eq]; exact Int.toNat_natCast b
 have hg:e.2.toNat=g:=by rw [ok.eq]; exact Int.toNat_natCast g
 have hc:c≠0:=by omega
 have hw:((cI p e.1 e.2,1):iX)=aX (cI p e.1 e.2) 1:=(v9 (q:=(cI p e.1 e.2,1)) ⟨Int.le_refl 1,by show Int.gcd _ 1=1; exact Int.gcd_one_right _⟩).symm
 have IU:c ^ b * c ^ g≠0:=Int.mul_ne_zero (Int.pow_ne_zero hc) (Int.pow_ne_zero hc)
 rw [hw,Hh h1 h2,GA (by decide) IU]
 unfold bh
 rw [hb,hg]
 refine m8 (Int.mul_ne_zero (by decide) IU) (Int.pow_ne_zero hc) ?_
 have e1:c ^ p.length=c ^ (p.length - b - g) * (c ^ b * c ^ g):=by
  rw [<- Int.pow_add,<- Int.pow_add]
  congr 1
  have:=ok.dr
  omega
 rw [e1]
 grind
theorem dY {p:List (List Int)} {e:Int×Int} {b g:Nat} (ok:qz p e b g):e.1.toNat=b /\ e.2.toNat=g:=by
 rw [ok.eq]; exact ⟨Int.toNat_natCast b,Int.toNat_natCast g⟩
theorem ux {p:List (List Int)} (hl:p.length<=24) {e:Int×Int} {b g:Nat} (ok:qz p e b g) {t c:Int} (h1:0 < t) (h2:t < c) (h3:c < 2 ^ 40):bt (bh p t c e)<=3000 /\ 0 < bh p t c e:=by
 obtain ⟨hb,hg⟩:=dY ok
 have hd:=ok.dr
 have bc:bt c<=40:=dq (by omega)
 have b1:bt t<=40:=dq (by omega)
 have b2:bt (c - t)<=40:=dq (by omega)
 unfold bh
 rw [hb,hg]
 exact ⟨bD (g8 (g8 (uj hl ok) (pw_bt bc (show p.length - b - g<=24 by omega))) (g8 (pw_bt b1 (show b<=24 by omega)) (pw_bt b2 (show g<=24 by omega)))) (by decide),Int.mul_pos (Int.mul_pos ok.pos (Int.pow_pos (by omega))) (Int.mul_pos (Int.pow_pos h1) (Int.pow_pos (by omega)))⟩
theorem ni {x:Int} {m n:Nat} (h:m<=n):x ^ m ∣ x ^ n:=⟨x ^ (n - m),by rw [<- Int.pow_add]; congr 1; omega⟩
theorem Hi {p:List (List Int)} {e:Int×Int} {b g:Nat} (ok:qz p e b g) {l h c:Int} (H:He l h c):1<=(dM l h c e).2 /\ (dM l h c e).2 ∣ l ^ p.length * (c - l) ^ p.length:=by
 obtain ⟨hb,hg⟩:=dY ok
 have hd:=ok.dr
 unfold dM
 rw [hb,hg]
 have q:=tQ H.p1 (show l < c by have:=H.p2; have:=H.p3; omega) (show 0 < h by have:=H.p1; have:=H.p2; omega) H.p3 b g
 refine ⟨q.pos,Int.dvd_trans q.o9 ?_⟩
 exact Int.mul_dvd_mul (ni (by omega)) (ni (by omega))
theorem Lo {p:List (List Int)} (hp:Pl p) (hl:p.length<=24) (k9:∀ r∈p,r.length<=25) (uQ:(aJ p).length < 64) {l h c:Int} (H:He l h c) (m:iX) (hm:Sz 40 m) (h0:0<=m.1) (h1:m.1<=m.2):
  ∃ F R S,F.Perm (aJ p) /\ (F.Pairwise fun a b=>(dM l h c b).1 * (dM l h c a).2<=(dM l h c a).1 * (dM l h c b).2) /\ F=R ++ S /\ dJ [dn p,dF (aX l c),dF (aX h c),dF m]=some (.tuple [.list (((aJ p).filter fun x=>decide (x∈R)).map dC),dF (BK (dM l h c) S),dF (aX (R.map (bh p l c)).sum (c ^ p.length)),dF (aX (R.map (bh p h c)).sum (c ^ p.length))]) /\ (R.map (bh p l c)).sum * m.2<=m.1 * c ^ p.length:=by
 have ⟨a1,a2,a3,a4⟩:=H
 obtain ⟨b1,b2,s1,s2,bc⟩:=El H
 have hU:0 < c ^ p.length:=Int.pow_pos (by omega)
 have bU:bt (c ^ p.length)<=3000:=bD (pw_bt bc hl) (by decide)
 obtain ⟨kds,ew,hD⟩:=wC hl k9 (0,0)
 have vs:=ko _ _ s1 s2 b1 b2 (Em a1 a2 a3)
 have vm:=uu m hm h0 h1
 have MM:0 < l ^ p.length * (c - l) ^ p.length:=Int.mul_pos (Int.pow_pos a1) (Int.pow_pos (by omega))
 obtain ⟨M,hM⟩:∃ M:Nat,(M:Int)=l ^ p.length * (c - l) ^ p.length:=⟨(l ^ p.length * (c - l) ^ p.length).toNat,by omega⟩
 have bM:bt (M:Int)<=3990:=by
  rw [hM]
  exact bD (g8 (pw_bt (dq (m:=40) (by omega)) hl) (pw_bt (dq (m:=40) (by omega)) hl)) (by decide)
 obtain ⟨F,vF,fe,Ap⟩:=Ep (xo (dM l h c) (bh p l c) (bh p h c) (c ^ p.length)) (dM l h c) (aJ p) (0,0) M (by omega) bM (fun a _=>ix4_1) (fun e he=>by
  obtain ⟨b,g,ok⟩:=jE hp he
  obtain ⟨r1,r2⟩:=Hi ok H
  have hd:=ok.dr
  rw [hM]
  refine ⟨r1,r2,?_⟩
  have:=(ur H b g (by omega) (by omega)).2.top
  unfold dM
  rw [(dY ok).1,(dY ok).2]
  exact bD this (by decide)) uQ
 have XF:F.length < 64:=by rw [fe.length_eq]; exact uQ
 obtain ⟨R,S,Hj,vT,hle⟩:=Hg (dM l h c) (bh p l c) (bh p h c) hU bU (aJ p) F m hm h0 (wM hp) (fe.nodup_iff.mpr (um hp)) (fun x hx=>fe.mem_iff.mp hx) XF fun e he=>by
  obtain ⟨b,g,ok⟩:=jE hp (fe.mem_iff.mp he)
  exact ⟨(ux hl ok a1 (by omega) a4).1,(ux hl ok (by omega) a3 a4).1⟩
 refine ⟨F,R,S,fe,Ap,Hj,?_,hle⟩
 rw [oR]
 refine bb ?_
 refine aM [some (dn p),some (dF (aX l c)),some (dF (aX h c)),some (dF m),none,none,none,none] (ug (call_of (cons_of rfl (cons_of rfl rfl)) rfl vs)) ?_
 refine aM [some (dn p),some (dF (aX l c)),some (dF (aX h c)),some (dF m),none,none,none,none] (ug (call_of (cons_of rfl rfl) rfl vm)) ?_
 refine aM [some (dn p),some (dF (aX l c)),some (dF (aX h c)),some (dF m),some (.dict kds),none,none,none] (aP (call_of (cons_of rfl (cons_of (jD rfl rfl) rfl)) rfl ew)) ?_
 refine aM [some (dn p),some (dF (aX l c)),some (dF (aX h c)),some (dF m),some (.dict kds),some (.list []),none,none] rfl ?_
 refine gN dC (aJ p) (fun i δ=>∃ x y:Option D,δ=[some (dn p),some (dF (aX l c)),some (dF (aX h c)),some (dF m),some (.dict kds),some (.list (((aJ p).take i).map (xo (dM l h c) (bh p l c) (bh p h c) (c ^ p.length)))),x,y]) (Eg (bP (gX (cons_of rfl rfl) rfl (K9 hl k9)))) ⟨none,none,rfl⟩ ?_ ?_
 ·rintro i e δ he ⟨x,y,rfl⟩
  obtain ⟨b,g,ok⟩:=jE hp (List.mem_of_getElem? he)
  have hd:=ok.dr
  have hi:i < (aJ p).length:=(List.getElem?_eq_some_iff.mp he).1
  have DX:=ok.pos
  have hw:cw kds [.inl e.1,.inl e.2]=some (.int (cI p e.1 e.2)):=hD.get (by show cI p e.1 e.2≠0; omega)
  have eC:dC e=.tuple [.int (b:Nat),.int (g:Nat)]:=by rw [ok.eq]; rfl
  have vr:=(ur H b g (by omega) (by omega)).1
  have XG:=pk b g _ s1 b1 (by omega) (by omega)
  have XH:=pk b g _ s2 b2 (by omega) (by omega)
  have XI:Sz 4000 ((cI p e.1 e.2,1):iX):=⟨⟨Int.le_refl 1,by show Int.gcd _ 1=1; exact Int.gcd_one_right _⟩,bD (uj hl ok) (by decide),bD (show bt (1:Int)<=1 from dq (by decide)) (by decide)⟩
  have XJ:=qx (cI p e.1 e.2,1) (jT b g (aX l c)) XI ((uq b g _ s1 b1 (by omega) (by omega)).up (by decide))
  have OT:=qx (cI p e.1 e.2,1) (jT b g (aX h c)) XI ((uq b g _ s2 b2 (by omega) (by omega)).up (by decide))
  rw [wN ok a1 (by omega)] at XJ
  rw [wN ok (show 0 < h by omega) a3] at OT
  rw [<- eC] at vr XG XH
  have er:rat b g (aX l c) (aX h c)=dM l h c e:=by unfold dM; rw [(dY ok).1,(dY ok).2]
  rw [er] at vr
  refine ⟨_,[some (dn p),some (dF (aX l c)),some (dF (aX h c)),some (dF m),some (.dict kds),some (.list (((aJ p).take i).map (xo (dM l h c) (bh p l c) (bh p h c) (c ^ p.length)) ++ [xo (dM l h c) (bh p l c) (bh p h c) (c ^ p.length) e])),some (dC e),some (dF (cI p e.1 e.2,1))],rfl,?_,some (dC e),some (dF (cI p e.1 e.2,1)),?_⟩
  ·refine bV [some (dn p),some (dF (aX l c)),some (dF (aX h c)),some (dF m),some (.dict kds),some (.list (((aJ p).take i).map (xo (dM l h c) (bh p l c) (bh p h c) (c ^ p.length)))),some (dC e),some (dF (cI p e.1 e.2,1))] (aP (jD ((ue (c:=e) rfl rfl).trans hw) rfl)) ?_
   refine ma rfl (uw rfl (call_of (cons_of rfl (cons_of rfl (cons_of rfl rfl))) rfl vr) (call_of (cons_of rfl (cons_of (call_of (cons_of rfl (cons_of rfl rfl)) rfl XG) rfl)) rfl XJ) (call_of (cons_of rfl (cons_of (call_of (cons_of rfl (cons_of rfl rfl)) rfl XH) rfl)) rfl OT)) (by rw [List.length_map,List.length_take]; omega)
  ·rw [List.take_add_one,he,List.map_append]; rfl
 ·rintro δ' ⟨x,y,rfl⟩
  rw [List.take_length]
  have nl:nG (F.map (xo (dM l h c) (bh p l c) (bh p h c) (c ^ p.length)))=true:=by
   clear Ap Hj vT fe vF XF
   induction F with
   | nil=>rfl
   | cons e F ih=>exact ih
  exact ret _ (call_of (cons_of (bP (md (cons_of rfl rfl) rfl vF nl)) (cons_of rfl rfl)) rfl vT) (.mk rfl rfl)
def TE (n:Nat) (x:D):Prop:=PyData.canLay0 x=true /\ PyData.depth x<=n
theorem TE.sh {n:Nat} {x:D} (h:TE n x) (hn:n<=60):SeqAt.shaped x=true:=by
 obtain ⟨a,b⟩:=h
 unfold SeqAt.shaped
 rw [a]; simp; omega
theorem Es (c:Int×Int):TE 2 (dC c):=by
 have e:dC c=.tuple (([c.1,c.2]:List Int).map .int):=rfl
 rw [e]
 simp [TE,PyData.canLay0,PyData.canLayAll0,PyData.depth,PyData.depthAll]
theorem N6 (cs:List (Int×Int)):TE 3 (.list (cs.map dC)):=by
 have h:PyData.canLayAll0 (cs.map dC)=true /\ PyData.depthAll (cs.map dC)<=2:=by
  induction cs with
  | nil=>simp [PyData.canLayAll0,PyData.depthAll]
  | cons c cs ih=>
    obtain ⟨a,b⟩:=Es c
    rw [List.map_cons,PyData.canLayAll0,PyData.depthAll,a,ih.1]
    exact ⟨rfl,by have:=ih.2; omega⟩
 unfold TE
 rw [PyData.canLay0,PyData.depth]
 exact ⟨h.1,by have:=h.2; omega⟩
theorem Aq (a c:Int×Int):PyData.eqv (dC a) (dC c)=decide (a=c):=by
 obtain ⟨a1,a2⟩:=a
 obtain ⟨c1,c2⟩:=c
 simp [dC,PyData.eqv,PyData.eqvAll]
 rfl
theorem Ar (neg:Bool) (c:Int×Int) (es:List (Int×Int)):nR neg (dC c) (.list (es.map dC))=some (.bool (decide (c∈es) != neg)):=by
 unfold nR
 simp only
 rw [if_pos (by rw [(Es c).sh (by decide),Bool.true_and,List.all_map]; simp [Function.comp,fun c=>(Es c).sh (show 2<=60 by decide)])]
 congr 3
 rw [List.any_map,Bool.eq_iff_iff]
 simp [Function.comp,Aq]
theorem Lp (cs:List (Int×Int)):CD (.list (cs.map dC)) (.list (cs.map dC))=some (.bool false):=by
 have h:=(N6 cs).sh (by decide)
 have e:zF (.list (cs.map dC)) (.list (cs.map dC))=some (.bool (PyData.eqv (.list (cs.map dC)) (.list (cs.map dC)))):=by
  show (if (SeqAt.shaped _ && SeqAt.shaped _)=true then _ else _)=_
  rw [if_pos (by rw [h]; rfl)]
 refine (KZ e).trans ?_
 have ea:∀ l:List (Int×Int),PyData.eqvAll (l.map dC) (l.map dC)=true:=fun l=>by
  induction l with
  | nil=>rfl
  | cons a l ih=>rw [List.map_cons,PyData.eqvAll,ih,Aq]; simp
 rw [PyData.eqv,ea]
 rfl
theorem As:∀ l:List Int,lT l=l.sum
 | []=>rfl
 | x :: l=>by rw [lT,As l,List.sum_cons]
theorem je:∀ l:List Int,jS (l.map .int)=some l
 | []=>rfl
 | x :: l=>by rw [List.map_cons,jS,je l]; rfl
theorem Lq {g:DS->Option (List D)} {δ:DS} {l:List Int} (h:g δ=some (l.map .int)):fI Bq (aa (bQ g) ai) δ=some (.int l.sum):=by
 refine sF (cons_of (bP h) rfl) ?_
 show (jS (l.map .int)).map _=_
 rw [je,<- As]; rfl
theorem wO {l m:List Int} (h:l.Perm m):l.sum=m.sum:=by
 induction h with
 | nil=>rfl
 | cons x _ ih=>rw [List.sum_cons,List.sum_cons,ih]
 | swap x y l=>rw [List.sum_cons,List.sum_cons,List.sum_cons,List.sum_cons]; omega
 | trans _ _ a b=>exact a.trans b
theorem Lr {rt:Int×Int->iX} {F R S:List (Int×Int)} (h2:∀ e∈F,0<=(rt e).1 /\ 1<=(rt e).2) (hf:F.Pairwise fun a b=>(rt b).1 * (rt a).2<=(rt a).1 * (rt b).2) (hF:F=R ++ S):
  0<=(BK rt S).1 /\ 1<=(BK rt S).2 /\ (∀ e∈R,(BK rt S).1 * (rt e).2<=(rt e).1 * (BK rt S).2) /\ ∀ e∈S,(rt e).1 * (BK rt S).2<=(BK rt S).1 * (rt e).2:=by
 subst hF
 rw [List.pairwise_append] at hf
 obtain ⟨_,f2,f3⟩:=hf
 cases S with
 | nil=>
   refine ⟨Int.le_refl 0,Int.le_refl 1,fun e he=>?_,fun e he=>by simp at he⟩
   have:=h2 e (List.mem_append_left _ he)
   show 0 * (rt e).2<=(rt e).1 * 1
   omega
 | cons s S=>
   obtain ⟨a,b⟩:=h2 s (List.mem_append_right _ List.mem_cons_self)
   refine ⟨a,b,fun e he=>f3 e he s List.mem_cons_self,fun e he=>?_⟩
   rcases List.mem_cons.mp he with rfl | he
   ·exact Int.le_refl _
   ·exact (List.pairwise_cons.mp f2).1 e he
theorem Et {r q:iX} {T B:Int} (h:lz r.1 r.2 T B) (hB:0 < B) (hq:q.1 * r.2<=r.1 * q.2):B * q.1<=T * q.2:=by
 have e:=h.eq
 have p:=h.pos
 refine Int.le_of_mul_le_mul_right (a:=r.2) ?_ (by omega)
 have:q.1 * r.2 * B<=r.1 * q.2 * B:=Int.mul_le_mul_of_nonneg_right hq (by omega)
 have e1:B * q.1 * r.2=q.1 * r.2 * B:=by grind
 have e2:T * q.2 * r.2=r.1 * q.2 * B:=by
  have:T * q.2 * r.2=(T * r.2) * q.2:=by grind
  rw [this,<- e]; grind
 rw [e1,e2]
 exact this
theorem Eu {r q:iX} {T B:Int} (h:lz r.1 r.2 T B) (hB:0 < B) (hq:r.1 * q.2<=q.1 * r.2):T * q.2<=B * q.1:=by
 have e:=h.eq
 have p:=h.pos
 refine Int.le_of_mul_le_mul_right (a:=r.2) ?_ (by omega)
 have:r.1 * q.2 * B<=q.1 * r.2 * B:=Int.mul_le_mul_of_nonneg_right hq (by omega)
 have e1:B * q.1 * r.2=q.1 * r.2 * B:=by grind
 have e2:T * q.2 * r.2=r.1 * q.2 * B:=by
  have:T * q.2 * r.2=(T * r.2) * q.2:=by grind
  rw [this,<- e]; grind
 rw [e1,e2]
 exact this
def sums:List (Int×Int)->List (Int×Int)
 | []=>[(0,0)]
 | z :: l=>sums l ++ (sums l).map fun x=>(x.1 + z.1,x.2 + z.2)
theorem wQ:∀ l,(sums l).length=2 ^ l.length
 | []=>rfl
 | z :: l=>by rw [sums,List.length_append,List.length_map,wQ l,List.length_cons,Nat.pow_succ]; omega
theorem Au {a b:Int}:∀ (l:List (Int×Int)) (P:Int×Int->Bool),(∀ z∈l,P z=true->0<=b * z.2 - a * z.1)->(∀ z∈l,P z=false->b * z.2 - a * z.1<=0)->∀ x∈sums l,b * x.2 - a * x.1<=((l.filter P).map fun z=>b * z.2 - a * z.1).sum
 | [],P,_,_,x,hx=>by
   rw [sums] at hx
   rw [List.mem_singleton.mp hx]
   simp
 | z :: l,P,h1,h2,x,hx=>by
   have ih:=Au l P (fun y hy=>h1 y (List.mem_cons_of_mem _ hy)) (fun y hy=>h2 y (List.mem_cons_of_mem _ hy))
   rw [sums] at hx
   cases hP:P z with
   | true=>
     have hz:=h1 z List.mem_cons_self hP
     rw [List.filter_cons_of_pos hP,List.map_cons,List.sum_cons]
     rcases List.mem_append.mp hx with hx | hx
     ·have:=ih x hx; omega
     ·obtain ⟨y,hy,rfl⟩:=List.mem_map.mp hx
      have:=ih y hy
      simp only
      rw [Int.mul_add,Int.mul_add]
      omega
   | false=>
     have hz:=h2 z List.mem_cons_self hP
     rw [List.filter_cons_of_neg (by simp [hP])]
     rcases List.mem_append.mp hx with hx | hx
     ·exact ih x hx
     ·obtain ⟨y,hy,rfl⟩:=List.mem_map.mp hx
      have:=ih y hy
      simp only
      rw [Int.mul_add,Int.mul_add]
      omega
theorem np {a b w k:Int} (ha:0<=a) (hb:1<=b) {x:Int×Int} (h:b * x.2 - a * x.1<=b * k - a * w) (hx:x.1<=w):x.2<=k:=by
 have h1:a * x.1<=a * w:=Int.mul_le_mul_of_nonneg_left hx ha
 have h2:b * x.2<=b * k:=by omega
 exact Int.le_of_mul_le_mul_left h2 (by omega)
theorem uy (n:Int):∃ l h c:Int,eP [.int n]=some (.tuple [.int l,.int h,.int c]) /\ He l h c:=by
 suffices key:d8 (eP [.int n]) fun d=>∃ l h c:Int,d=.tuple [.int l,.int h,.int c] /\ He l h c by
  obtain ⟨_,e,l,h,c,rfl,H⟩:=key
  exact ⟨l,h,c,e,H⟩
 rw [ub]
 have XM:vk (.int 10) (.int 12)=some (.int (10 ^ 12)):=IE (k:=12) (by decide) (by decide)
 refine aM [some (.int n),some (.int (3 + n / 2 % 12)),none,none,none] (aP (ak rfl (ak (ak rfl rfl (dd 2 (by decide) (by decide))) rfl (gm (by decide))) rfl)) ?_
 refine aM [some (.int n),some (.int (3 + n / 2 % 12)),some (.int (n / 24)),none,none] (aP (ak rfl rfl (dd 24 (by decide) (by decide)))) ?_
 have hc:gB (g2 zF (g2 fb (ae 0) (gC (.int (2)))) (gC (.int (1)))) [some (.int n),some (.int (3 + n / 2 % 12)),some (.int (n / 24)),none,none]=some (decide (n % 2=1)):=dG (ak (ak rfl rfl (gm (by decide))) rfl rfl)
 have rest:∀ (c r:Int),3<=c->c < 2 ^ 40->d8 (((aD (aS 3 (g2 bp (gC (.int (1))) (g2 fb (ae 2) (g2 dB (ae 1) (gC (.int (2)))))))
  (aD (aS 4 (g2 bp (g2 bp (ae 3) (gC (.int (1)))) (g2 fb (g2 g4 (ae 2) (g2 dB (ae 1) (gC (.int (2))))) (g2 dB (g2 dB (ae 1) (gC (.int (1)))) (ae 3)))))
  (bH (aW (aa (ae 3) (aa (ae 4) (aa (ae 1) ai))))))) [some (.int n),some (.int c),some (.int r),none,none]).bind dD) fun d=>∃ l h c:Int,d=.tuple [.int l,.int h,.int c] /\ He l h c:=by
  intro c r h3 yW
  have m0:=Int.emod_nonneg r (show c - 2≠0 by omega)
  have m1:=Int.emod_lt_of_pos r (show 0 < c - 2 by omega)
  obtain ⟨x,hx⟩:∃ x,x=r % (c - 2):=⟨_,rfl⟩
  rw [<- hx] at m0 m1
  have m2:=Int.emod_nonneg (r / (c - 2)) (show c - 1 - (1 + x)≠0 by omega)
  have m3:=Int.emod_lt_of_pos (r / (c - 2)) (show 0 < c - 1 - (1 + x) by omega)
  refine aM [some (.int n),some (.int c),some (.int r),some (.int (1 + x)),none] (aP (ak rfl (ak rfl (ak rfl rfl rfl) (gm (by omega))) (by rw [hx]; rfl))) ?_
  refine aM [some (.int n),some (.int c),some (.int r),some (.int (1 + x)),some (.int (1 + x + 1 + r / (c - 2) % (c - 1 - (1 + x))))] (aP (ak (ak rfl rfl rfl) (ak (ak rfl (ak rfl rfl rfl) (dd (c - 2) (by omega) (by omega))) (ak (ak rfl rfl rfl) rfl rfl) (gm (by omega))) rfl)) ?_
  exact ret _ (G7 rfl rfl rfl) (.mk rfl ⟨_,_,_,rfl,by omega,by omega,by omega,yW⟩)
 refine z9 (decide (n % 2=1)) hc (fun _=>?_) (fun _=>?_)
 ·refine (show ∀ {x y:Option D},x=y->d8 y _->d8 x _ from fun e h=>e ▸ h) (congrArg (fun z:Option Res=>z.bind dD) seq_assoc) ?_
  refine aM [some (.int n),some (.int (3 + n / 2 % 10 ^ 12)),some (.int (n / 24)),none,none] (aP (ak rfl (ak (ak rfl rfl (dd 2 (by decide) (by decide))) XM (gm (by decide))) rfl)) ?_
  refine aM [some (.int n),some (.int (3 + n / 2 % 10 ^ 12)),some (.int (n / 2 / 10 ^ 12 + n / 7)),none,none] (aP (ak (ak (ak rfl rfl (dd 2 (by decide) (by decide))) XM (dd (10 ^ 12) (by decide) (by decide))) (ak rfl rfl (dd 7 (by decide) (by decide))) rfl)) ?_
  exact rest _ _ (by omega) (by omega)
 ·refine (show ∀ {x y:Option D},x=y->d8 y _->d8 x _ from fun e h=>e ▸ h) (congrArg (fun z:Option Res=>z.bind dD) DN) ?_
  exact rest _ _ (by omega) (by omega)
theorem iQ (u:Int) (k:Nat) (hu:bt u<=1000) (hk:k<=1000):cO [.int u,.int (k:Nat)]=some (.int (u ^ k)):=by
 rw [wt]
 refine bb ?_
 refine aM [some (.int u),some (.int (k:Nat)),some (.int 1),none] rfl ?_
 refine jh 0 k (fun i δ=>∃ z:Option D,δ=[some (.int u),some (.int (k:Nat)),some (.int (u ^ i)),z]) (iw rfl (by omega)) ⟨none,by rw [Int.pow_zero]⟩ ?_ ?_
 ·rintro i δ hi ⟨z,rfl⟩
  have hm:IntMulOk (u ^ i) u:=cx (yt hu i) hu (by have:1000 * i<=1000 * 1000:=Nat.mul_le_mul_left _ (by omega); omega)
  exact ⟨_,[some (.int u),some (.int (k:Nat)),some (.int (u ^ (i + 1))),some (.int (0 + (i:Int)))],rfl,aP (ak rfl rfl ((cB hm).trans (by rw [Int.pow_succ]))),_,rfl⟩
 ·rintro δ' ⟨z,rfl⟩
  exact ret (.int (u ^ k)) rfl (.mk rfl rfl)
theorem il (b g:Nat) (t c:Int) (h1:0 < t) (h2:t < c) (h3:c < 2 ^ 40) (hb:b<=24) (hg:g<=24):cA [.tuple [.int (b:Nat),.int (g:Nat)],.int t,.int c]=some (.int (t ^ b * (c - t) ^ g)) /\ bt (t ^ b * (c - t) ^ g)<=1922 /\ 0 < t ^ b * (c - t) ^ g:=by
 have t1:bt t<=40:=dq (by omega)
 have t2:bt (c - t)<=40:=dq (by omega)
 refine ⟨?_,g8 (pw_bt t1 hb) (pw_bt t2 hg),Int.mul_pos (Int.pow_pos h1) (Int.pow_pos (by omega))⟩
 rw [uc]
 exact bb (ret _ (ak (call_of (cons_of rfl (cons_of (ak rfl rfl tV) rfl)) rfl (iQ t b (bD t1 (by decide)) (by omega))) (call_of (cons_of (ak rfl rfl rfl) (cons_of (ak rfl rfl wb) rfl)) rfl (iQ (c - t) g (bD t2 (by decide)) (by omega))) (cB (cx (pw_bt t1 hb) (pw_bt t2 hg)))) (.mk rfl rfl))
theorem Av (c:Int×Int) (es:List (Int×Int)):nR false (dC c) (.list (es.map dC))=some (.bool (decide (c∈es))):=by rw [Ar]; simp
theorem wR (c:Int×Int) (es:List (Int×Int)):nR true (dC c) (.list (es.map dC))=some (.bool (!decide (c∈es))):=by rw [Ar]; simp
theorem ix3_0 {a b c:D}:bu (.tuple [a,b,c]) (.int 0)=some a:=rfl
theorem ix3_1 {a b c:D}:bu (.tuple [a,b,c]) (.int 1)=some b:=rfl
theorem ix3_2 {a b c:D}:bu (.tuple [a,b,c]) (.int 2)=some c:=rfl
theorem yY {a b:DS->Option Bool} {δ:DS} (h:a δ=some false):mQ a b δ=some false:=by unfold mQ; rw [h]; rfl
theorem rA {p:List (List Int)} (hp:Pl p) (hl:p.length<=24) {l h c:Int} (H:He l h c) (Rf:List (Int×Int)) (q:iX) (w k:D) (bq:Sz 4000 q)
  (h1:∀ e∈aJ p,e∈Rf->q.1 * (dM l h c e).2<=(dM l h c e).1 * q.2) (h2:∀ e∈aJ p,e∉Rf->(dM l h c e).1 * q.2<=q.1 * (dM l h c e).2):
  ff [.tuple [.list (Rf.map dC),dF q,w,k],.list ((aJ p).map dC),.tuple [.int l,.int h,.int c]]=some (.bool true):=by
 have ⟨a1,a2,a3,a4⟩:=H
 rw [rp]
 refine bb ?_
 refine gN dC (aJ p) (fun i δ=>∃ x y z:Option D,δ=[some (.tuple [.list (Rf.map dC),dF q,w,k]),some (.list ((aJ p).map dC)),some (.tuple [.int l,.int h,.int c]),x,y,z]) rfl ⟨none,none,none,rfl⟩ ?_ ?_
 ·rintro i e δ he ⟨x,y,z,rfl⟩
  have hm:=List.mem_of_getElem? he
  obtain ⟨b,g,ok⟩:=jE hp hm
  have hd:=ok.dr
  have eC:dC e=.tuple [.int (b:Nat),.int (g:Nat)]:=by rw [ok.eq]; rfl
  obtain ⟨w1,QT,pw1⟩:=il b g h c (by omega) a3 a4 (by omega) (by omega)
  obtain ⟨w2,QU,XN⟩:=il b g l c a1 (by omega) a4 (by omega) (by omega)
  rw [<- eC] at w1 w2
  have qq:lz (dM l h c e).1 (dM l h c e).2 (h ^ b * (c - h) ^ g) (l ^ b * (c - l) ^ g):=by
   unfold dM
   rw [(dY ok).1,(dY ok).2]
   exact tQ a1 (by omega) (by omega) a3 b g
  refine ⟨_,[some (.tuple [.list (Rf.map dC),dF q,w,k]),some (.list ((aJ p).map dC)),some (.tuple [.int l,.int h,.int c]),some (dC e),some (.int (h ^ b * (c - h) ^ g * q.2)),some (.int (l ^ b * (c - l) ^ g * q.1))],rfl,?_,_,_,_,rfl⟩
  refine bV [some (.tuple [.list (Rf.map dC),dF q,w,k]),some (.list ((aJ p).map dC)),some (.tuple [.int l,.int h,.int c]),some (dC e),some (.int (h ^ b * (c - h) ^ g * q.2)),z] (aP (ak (call_of (cons_of rfl (cons_of (ak rfl rfl ix3_1) (cons_of (ak rfl rfl ix3_2) rfl))) rfl w1) (ak (ak rfl rfl ix4_1) rfl (dX q)) (cB (cx QT bq.bot)))) ?_
  refine bV [some (.tuple [.list (Rf.map dC),dF q,w,k]),some (.list ((aJ p).map dC)),some (.tuple [.int l,.int h,.int c]),some (dC e),some (.int (h ^ b * (c - h) ^ g * q.2)),some (.int (l ^ b * (c - l) ^ g * q.1))] (aP (ak (call_of (cons_of rfl (cons_of (ak rfl rfl ix3_0) (cons_of (ak rfl rfl ix3_2) rfl))) rfl w2) (ak (ak rfl rfl ix4_1) rfl (fm q)) (cB (cx QU bq.top)))) ?_
  refine sD ?_
  by_cases hR:e∈Rf
  ·have hg:=Et qq XN (h1 e hm hR)
   refine we (nZ (dG ((ak rfl (ak rfl rfl ix4_0) (Av e Rf)).trans (by rw [decide_eq_true hR]))) (dG (ak rfl rfl (show zE (.int _) (.int _)=some (.bool false) by show some (PyData.bool (decide _))=_; rw [decide_eq_false (by omega)])))) (yY (dG ((ak rfl (ak rfl rfl ix4_0) (wR e Rf)).trans (by rw [decide_eq_true hR]; rfl))))
  ·have hg:=Eu qq XN (h2 e hm hR)
   refine we (yY (dG ((ak rfl (ak rfl rfl ix4_0) (Av e Rf)).trans (by rw [decide_eq_false hR])))) (nZ (dG ((ak rfl (ak rfl rfl ix4_0) (wR e Rf)).trans (by rw [decide_eq_false hR]; rfl))) (dG (ak rfl rfl (show vn (.int _) (.int _)=some (.bool false) by show some (PyData.bool (decide _))=_; rw [decide_eq_false (by omega)]))))
 ·rintro δ' ⟨x,y,z,rfl⟩
  exact ret (.bool true) rfl (.mk rfl rfl)
theorem Ew {α β:Type} (ex ey:α->D) (jx:β->D) (h:α->β) {gi:DS->Option (List D)} {ix:List Nat} {ge:DS->Option D} {δ:DS} (l:List α) (hi:gi δ=some (l.map fun a=>.tuple [ex a,ey a])) (hl:l.length<=100000)
  (he:∀ a∈l,ge (some (ex a) :: some (ey a) :: df ix δ)=some (jx (h a))):cz gi 2 ix (gT 2 (bN (aL 0) (bN (aL 1) hZ))) (fun _=>some true) ge δ=some ((l.map h).map jx):=by
 unfold cz
 rw [hi,Option.bind_some,if_pos (by rw [List.length_map]; exact hl)]
 have:=yQ (fun a=>PyData.tuple [ex a,ey a]) jx h (fun _=>true) (f:=fun d=>(gT 2 (bN (aL 0) (bN (aL 1) hZ)) d (List.replicate 2 none ++ df ix δ)).bind fun dW=>(some true).bind fun b=>if b=true then Option.map some (ge dW) else some none) l fun a ha=>by
  show (Option.bind (some (some (ex a) :: some (ey a) :: df ix δ)) _)=_
  rw [Option.bind_some,Option.bind_some,if_pos rfl,he a ha]; rfl
 rw [List.filter_eq_self.mpr (by simp)] at this
 exact this
theorem Ex {l:List (Int×Int)} (h:l.length<=14):(sums l).length<=16384:=by
 rw [wQ]
 exact Nat.pow_le_pow_right (by decide) h
theorem Ey:∀ zs:List (Int×Int),(zs.map (·.1)).zip (zs.map (·.2))=zs
 | []=>rfl
 | z :: zs=>by rw [List.map_cons,List.map_cons,List.zip_cons_cons,Ey zs]
theorem yZ (zs:List (Int×Int)) (w k:Int) (hz:zs.length<=14) (hb:∀ x∈sums zs.reverse,x.1<=w->x.2<=k):iH [.list ((zs.map (·.1)).map .int),.list ((zs.map (·.2)).map .int),.int w,.int k]=some (.bool true):=by
 rw [yK]
 refine bb ?_
 have ez:tH ((zs.map (·.1)).map .int) ((zs.map (·.2)).map .int)=zs.map dC:=by
  rw [An]
  rw [Ey]; rfl
 refine aM [some (.list ((zs.map (·.1)).map .int)),some (.list ((zs.map (·.2)).map .int)),some (.int w),some (.int k),some (.list [dC (0,0)]),none,none,none,none] rfl ?_
 refine gN dC zs (fun i δ=>∃ a b:Option D,δ=[some (.list ((zs.map (·.1)).map .int)),some (.list ((zs.map (·.2)).map .int)),some (.int w),some (.int k),some (.list ((sums (zs.take i).reverse).map dC)),a,b,none,none]) ((Lg rfl rfl).trans (congrArg some ez)) ⟨none,none,rfl⟩ ?_ ?_
 ·rintro i z δ hi ⟨a,b,rfl⟩
  have hl:i < zs.length:=(List.getElem?_eq_some_iff.mp hi).1
  have hs:=Ex (l:=(zs.take i).reverse) (by rw [List.length_reverse,List.length_take]; omega)
  have et:(zs.take (i + 1)).reverse=z :: (zs.take i).reverse:=by rw [List.take_add_one,hi,List.reverse_append]; rfl
  refine ⟨_,[some (.list ((zs.map (·.1)).map .int)),some (.list ((zs.map (·.2)).map .int)),some (.int w),some (.int k),some (.list ((sums (zs.take (i + 1)).reverse).map dC)),some (.int z.1),some (.int z.2),none,none],rfl,aP (bP ?_),_,_,rfl⟩
  rw [et,sums,List.map_append]
  refine DT rfl (bP (Ew (fun x:Int×Int=>.int x.1) (fun x=>.int x.2) dC (fun x=>(x.1 + z.1,x.2 + z.2)) (sums (zs.take i).reverse) rfl (by omega) fun x _=>?_)) (by rw [List.length_map,List.length_map,List.length_map]; omega)
  exact jD (ak rfl rfl rfl) (ak rfl rfl rfl)
 ·rintro δ' ⟨a,b,rfl⟩
  rw [List.take_length]
  refine gN dC (sums zs.reverse) (fun i δ=>∃ x y:Option D,δ=[some (.list ((zs.map (·.1)).map .int)),some (.list ((zs.map (·.2)).map .int)),some (.int w),some (.int k),some (.list ((sums zs.reverse).map dC)),a,b,x,y]) rfl ⟨none,none,rfl⟩ ?_ ?_
  ·rintro i x δ hi ⟨u,v,rfl⟩
   have hx:=hb x (List.mem_of_getElem? hi)
   refine ⟨_,[some (.list ((zs.map (·.1)).map .int)),some (.list ((zs.map (·.2)).map .int)),some (.int w),some (.int k),some (.list ((sums zs.reverse).map dC)),a,b,some (.int x.1),some (.int x.2)],rfl,sD ?_,_,_,rfl⟩
   by_cases h1:x.1<=w
   ·have:=hx h1
    exact nZ (dG (ak rfl rfl (show MU (.int _) (.int _)=some (.bool true) by show some (PyData.bool (decide _))=_; rw [decide_eq_true h1]))) (dG (ak rfl rfl (show vn (.int _) (.int _)=some (.bool false) by show some (PyData.bool (decide _))=_; rw [decide_eq_false (by omega)])))
   ·exact yY (dG (ak rfl rfl (show MU (.int _) (.int _)=some (.bool false) by show some (PyData.bool (decide _))=_; rw [decide_eq_false h1])))
  ·rintro δ' ⟨u,v,rfl⟩
   exact ret (.bool true) rfl (.mk rfl rfl)
theorem y0 {α:Type} (E:List α) (z:α) (P:α->Bool) (f:α->Int):((((List.range E.length).filter fun i=>P (E.getD i z)).map fun i=>f (E.getD i z)))=(E.filter P).map f:=by
 have e:E=(List.range E.length).map fun i=>E.getD i z:=by
  refine List.ext_getElem (by simp) fun i h1 h2=>?_
  rw [List.getElem_map,List.getElem_range,List.getD_eq_getElem?_getD,List.getElem?_eq_getElem h1]; rfl
 have e2:(E.filter P).map f=(((List.range E.length).map fun i=>E.getD i z).filter P).map f:=by rw [<- e]
 rw [e2,List.filter_map,List.map_map]
 rfl
theorem wU {p:List (List Int)} (hp:Pl p) (hl:p.length<=4) (k9:∀ r∈p,r.length<=25) {l h c:Int} (H:He l h c) (m:iX) (hm:Sz 40 m) (h0:0<=m.1) (h1:m.1<=m.2):g0 [dn p,.tuple [.int l,.int h,.int c],dF m]=some (.bool true):=by
 have ⟨a1,a2,a3,a4⟩:=H
 have uz:p.length<=24:=by omega
 obtain ⟨b1,b2,s1,s2,bc⟩:=El H
 have QV:(aJ p).length<=14:=by
  have h:=Ek hp
  have:p.length * (p.length + 3)<=4 * (4 + 3):=Nat.mul_le_mul hl (by omega)
  omega
 have ml:=l9 l c (by omega) (bD bc (by decide))
 have mh:=l9 h c (by omega) (bD bc (by decide))
 obtain ⟨kds,ew,hD⟩:=yU hp uz k9
 have ve:=wH hp uz k9
 have vt:=iQ c p.length (bD bc (by decide)) (by omega)
 have hU:0 < c ^ p.length:=Int.pow_pos (by omega)
 have bU:bt (c ^ p.length)<=961:=pw_bt bc uz
 obtain ⟨F,R,S,fe,Ap,Hj,vr,hle⟩:=Lo hp uz k9 (by omega) H m hm h0 h1
 have ZV:∀ e∈F,0<=(dM l h c e).1 /\ 1<=(dM l h c e).2:=fun e he=>by
  obtain ⟨b,g,ok⟩:=jE hp (fe.mem_iff.mp he)
  have q:lz (dM l h c e).1 (dM l h c e).2 (h ^ b * (c - h) ^ g) (l ^ b * (c - l) ^ g):=by
   unfold dM
   rw [(dY ok).1,(dY ok).2]
   exact tQ a1 (by omega) (by omega) a3 b g
  refine ⟨?_,q.pos⟩
  have e1:=q.eq
  have p1:=q.pos
  have t1:0 < h ^ b * (c - h) ^ g:=Int.mul_pos (Int.pow_pos (by omega)) (Int.pow_pos (by omega))
  have t2:0 < l ^ b * (c - l) ^ g:=Int.mul_pos (Int.pow_pos a1) (Int.pow_pos (by omega))
  have:0 < (dM l h c e).1 * (l ^ b * (c - l) ^ g):=by rw [e1]; exact Int.mul_pos t1 (by omega)
  exact Int.le_of_lt (Int.pos_of_mul_pos_left this t2)
 obtain ⟨r0,r1,rR,rS⟩:=Lr ZV Ap Hj
 have z4:F.Nodup:=fe.nodup_iff.mpr (um hp)
 have ZW:R.Nodup:=by rw [Hj] at z4; exact (List.nodup_append.mp z4).1
 have QW:∀ e∈R,e∈aJ p:=fun e he=>fe.mem_iff.mp (by rw [Hj]; exact List.mem_append_left _ he)
 have ZX:Sz 4000 (BK (dM l h c) S):=by
  cases S with
  | nil=>exact ⟨⟨Int.le_refl 1,by show Int.gcd 0 1=1; decide⟩,bD (show bt (0:Int)<=1 from dq (by decide)) (by decide),bD (show bt (1:Int)<=1 from dq (by decide)) (by decide)⟩
  | cons e S=>
    obtain ⟨b,g,ok⟩:=jE hp (fe.mem_iff.mp (by rw [Hj]; exact List.mem_append_right _ List.mem_cons_self:e∈F))
    have hd:=ok.dr
    show Sz 4000 (dM l h c e)
    unfold dM
    rw [(dY ok).1,(dY ok).2]
    exact (ur H b g (by omega) (by omega)).2.up (by decide)
 generalize hq:BK (dM l h c) S=q at *
 obtain ⟨Rf,LW⟩:∃ Rf,Rf=(aJ p).filter fun x=>decide (x∈R):=⟨_,rfl⟩
 have wV:∀ e,e∈Rf↔e∈R:=fun e=>by
  rw [LW,List.mem_filter,decide_eq_true_iff]
  exact ⟨fun z=>z.2,fun z=>⟨QW e z,z⟩⟩
 have ZY:Rf.Perm R:=by
  refine (List.perm_ext_iff_of_nodup ?_ ZW).mpr wV
  rw [LW]; exact (um hp).filter _
 have XO:(aJ p).filter (fun x=>decide (x∈Rf))=Rf:=by
  rw [LW]
  refine List.filter_congr fun x hx=>?_
  rw [decide_eq_decide,List.mem_filter,decide_eq_true_iff]
  exact ⟨fun z=>z.2,fun z=>⟨hx,z⟩⟩
 rw [<- LW] at vr
 have eW:∀ f:Int×Int->Int,(R.map f).sum=(Rf.map f).sum:=fun f=>wO (ZY.symm.map f)
 rw [eW,eW] at vr
 rw [eW] at hle
 have XQ:∀ e,e∈aJ p->bt (bh p l c e)<=3000 /\ bt (bh p h c e)<=3000:=fun e he=>by
  obtain ⟨b,g,ok⟩:=jE hp he
  exact ⟨(ux uz ok a1 (by omega) a4).1,(ux uz ok (by omega) a3 a4).1⟩
 have N7:Rf.length < 64:=by rw [LW]; exact Nat.lt_of_le_of_lt (List.length_filter_le _ _) (by omega)
 have bW:bt (Rf.map (bh p l c)).sum<=3006 /\ bt (Rf.map (bh p h c)).sum<=3006:=by
  constructor
  ·exact yX (fun x hx=>by obtain ⟨e,he,rfl⟩:=List.mem_map.mp hx; exact (XQ e (QW e ((wV e).mp he))).1) (by rw [List.length_map]; exact N7)
  ·exact yX (fun x hx=>by obtain ⟨e,he,rfl⟩:=List.mem_map.mp hx; exact (XQ e (QW e ((wV e).mp he))).2) (by rw [List.length_map]; exact N7)
 have vh:=rA hp uz H Rf q (dF (aX (Rf.map (bh p l c)).sum (c ^ p.length))) (dF (aX (Rf.map (bh p h c)).sum (c ^ p.length))) ZX (fun e _ he=>rR e ((wV e).mp he)) (fun e he hn=>rS e (by
  have:e∈F:=fe.mem_iff.mpr he
  rw [Hj] at this
  rcases List.mem_append.mp this with z | z
  ·exact absurd ((wV e).mpr z) hn
  ·exact z))
 have fr:∀ W,bt W<=3006->cV [dF (aX W (c ^ p.length)),.int W,.int (c ^ p.length)]=some (.bool true):=fun W hW=>by
  have ok:=bI (t:=W) (show c ^ p.length≠0 by omega)
  have z:Sz 4000 (aX W (c ^ p.length)):=wD (by omega) (bD hW (by decide)) (bD bU (by decide))
  exact rq ok (cx z.top bU) (cx hW z.bot)
 have vb:=yZ ((aJ p).map fun e=>(bh p l c e,bh p h c e)) (Rf.map (bh p l c)).sum (Rf.map (bh p h c)).sum (by rw [List.length_map]; exact QV) (by
  intro x hx ZZ
  have pos:∀ e∈aJ p,∃ f B T:Int,0 < f /\ bh p l c e=f * B /\ bh p h c e=f * T /\ 0 < B /\ lz (dM l h c e).1 (dM l h c e).2 T B:=fun e he=>by
   obtain ⟨b,g,ok⟩:=jE hp he
   refine ⟨cI p e.1 e.2 * c ^ (p.length - e.1.toNat - e.2.toNat),l ^ e.1.toNat * (c - l) ^ e.2.toNat,h ^ e.1.toNat * (c - h) ^ e.2.toNat,Int.mul_pos ok.pos (Int.pow_pos (by omega)),rfl,rfl,Int.mul_pos (Int.pow_pos a1) (Int.pow_pos (by omega)),?_⟩
   exact tQ a1 (by omega) (by omega) a3 _ _
  have worth:∀ e∈aJ p,(e∈R->0<=q.2 * bh p h c e - q.1 * bh p l c e) /\ (e∉R->q.2 * bh p h c e - q.1 * bh p l c e<=0):=fun e he=>by
   obtain ⟨f,B,T,hf,e1,e2,hB,hQ⟩:=pos e he
   rw [e1,e2]
   constructor
   ·intro hR
    have:=Int.mul_le_mul_of_nonneg_left (Et hQ hB (rR e hR)) (Int.le_of_lt hf)
    have k1:q.2 * (f * T)=f * (T * q.2):=by grind
    have k2:q.1 * (f * B)=f * (B * q.1):=by grind
    rw [k1,k2]; omega
   ·intro hR
    have hS:e∈S:=by
     have:e∈F:=fe.mem_iff.mpr he
     rw [Hj] at this
     exact (List.mem_append.mp this).resolve_left hR
    have:=Int.mul_le_mul_of_nonneg_left (Eu hQ hB (rS e hS)) (Int.le_of_lt hf)
    have k1:q.2 * (f * T)=f * (T * q.2):=by grind
    have k2:q.1 * (f * B)=f * (B * q.1):=by grind
    rw [k1,k2]; omega
  have key:=Au (a:=q.1) (b:=q.2) (((aJ p).map fun e=>(bh p l c e,bh p h c e)).reverse) (fun z=>decide (0<=q.2 * z.2 - q.1 * z.1)) (fun z _ hz=>of_decide_eq_true hz) (fun z _ hz=>by have:=of_decide_eq_false hz; omega) x hx
  refine np r0 r1 (Int.le_trans key (Int.le_of_eq ?_)) ZZ
  rw [List.filter_reverse,List.map_reverse,wO (List.reverse_perm _),List.filter_map,List.map_map]
  have split:∀ L:List (Int×Int),(∀ e∈L,e∈aJ p)->((L.filter ((fun z:Int×Int=>decide (0<=q.2 * z.2 - q.1 * z.1)) ∘ fun e=>(bh p l c e,bh p h c e))).map ((fun z:Int×Int=>q.2 * z.2 - q.1 * z.1) ∘ fun e=>(bh p l c e,bh p h c e))).sum=q.2 * ((L.filter fun x=>decide (x∈R)).map (bh p h c)).sum - q.1 * ((L.filter fun x=>decide (x∈R)).map (bh p l c)).sum:=by
   intro L
   induction L with
   | nil=>intro _; simp
   | cons e L ih=>
     intro hL
     have ih:=ih fun x hx=>hL x (List.mem_cons_of_mem _ hx)
     obtain ⟨w1,w2⟩:=worth e (hL e List.mem_cons_self)
     by_cases hR:e∈R
     ·rw [List.filter_cons_of_pos (by simpa using w1 hR),List.filter_cons_of_pos (by simpa using hR),List.map_cons,List.sum_cons,ih,List.map_cons,List.map_cons,List.sum_cons,List.sum_cons]
      simp only [Function.comp]
      grind
     ·rw [List.filter_cons_of_neg (p:=fun x=>decide (x∈R)) (by simpa using hR)]
      by_cases h2:0<=q.2 * bh p h c e - q.1 * bh p l c e
      ·rw [List.filter_cons_of_pos (by simpa using h2),List.map_cons,List.sum_cons,ih]
       have:=w2 hR
       simp only [Function.comp]
       omega
      ·rw [List.filter_cons_of_neg (by simpa using h2),ih]
  rw [split _ fun e he=>he,<- LW])
 rw [show ((aJ p).map fun e=>(bh p l c e,bh p h c e)).map (·.1)=(aJ p).map (bh p l c) by rw [List.map_map]; rfl,show ((aJ p).map fun e=>(bh p l c e,bh p h c e)).map (·.2)=(aJ p).map (bh p h c) by rw [List.map_map]; rfl] at vb
 rw [wu]
 refine bb ?_
 refine aM [some (dn p),some (.tuple [.int l,.int h,.int c]),some (dF m),some (.dict kds),none,none,none,none,none,none,none,none,none] (aP (call_of (cons_of rfl rfl) rfl ew)) ?_
 refine aM [some (dn p),some (.tuple [.int l,.int h,.int c]),some (dF m),some (.dict kds),some (.list ((aJ p).map dC)),none,none,none,none,none,none,none,none] (aP (bP (gX (cons_of rfl rfl) rfl ve))) ?_
 refine aM [some (dn p),some (.tuple [.int l,.int h,.int c]),some (dF m),some (.dict kds),some (.list ((aJ p).map dC)),some (.int (c ^ p.length)),none,none,none,none,none,none,none] (aP (call_of (cons_of (ak rfl rfl ix3_2) (cons_of (sF (cons_of rfl rfl) (by show some (PyData.int ((p.map dR).length:Nat))=_; rw [List.length_map])) rfl)) rfl vt)) ?_
 refine aM [some (dn p),some (.tuple [.int l,.int h,.int c]),some (dF m),some (.dict kds),some (.list ((aJ p).map dC)),some (.int (c ^ p.length)),some (.list []),none,none,none,none,none,none] rfl ?_
 refine aM [some (dn p),some (.tuple [.int l,.int h,.int c]),some (dF m),some (.dict kds),some (.list ((aJ p).map dC)),some (.int (c ^ p.length)),some (.list []),some (.list []),none,none,none,none,none] rfl ?_
 refine gN dC (aJ p) (fun i δ=>∃ x y:Option D,δ=[some (dn p),some (.tuple [.int l,.int h,.int c]),some (dF m),some (.dict kds),some (.list ((aJ p).map dC)),some (.int (c ^ p.length)),some (.list ((((aJ p).take i).map (bh p l c)).map .int)),some (.list ((((aJ p).take i).map (bh p h c)).map .int)),x,y,none,none,none]) rfl ⟨none,none,rfl⟩ ?_ ?_
 ·rintro i e δ he ⟨x,y,rfl⟩
  have Z0:=List.mem_of_getElem? he
  have hi:i < (aJ p).length:=(List.getElem?_eq_some_iff.mp he).1
  obtain ⟨b,g,ok⟩:=jE hp Z0
  have hd:=ok.dr
  have DX:=ok.pos
  have eC:dC e=.tuple [.int (b:Nat),.int (g:Nat)]:=by rw [ok.eq]; rfl
  have hw:cw kds [.inl e.1,.inl e.2]=some (.int (cI p e.1 e.2)):=hD.get (by show cI p e.1 e.2≠0; omega)
  have OT:=iQ c (p.length - b - g) (bD bc (by decide)) (by omega)
  obtain ⟨w1,QT,_⟩:=il b g h c (by omega) a3 a4 (by omega) (by omega)
  obtain ⟨w2,QU,_⟩:=il b g l c a1 (by omega) a4 (by omega) (by omega)
  rw [<- eC] at w1 w2
  have bf:bt (cI p e.1 e.2 * c ^ (p.length - b - g))<=986:=g8 (uj uz ok) (pw_bt bc (by omega))
  have Z1:((p.length:Nat):Int) - (b:Int) - (g:Int)=((p.length - b - g:Nat):Int):=by omega
  have el:∀ t:Int,bh p t c e=cI p e.1 e.2 * c ^ (p.length - b - g) * (t ^ b * (c - t) ^ g):=fun t=>by unfold bh; rw [(dY ok).1,(dY ok).2]
  have et:∀ f:Int×Int->Int,(((aJ p).take (i + 1)).map f).map PyData.int=(((aJ p).take i).map f).map PyData.int ++ [PyData.int (f e)]:=fun f=>by rw [List.take_add_one,he,List.map_append,List.map_append]; rfl
  refine ⟨_,[some (dn p),some (.tuple [.int l,.int h,.int c]),some (dF m),some (.dict kds),some (.list ((aJ p).map dC)),some (.int (c ^ p.length)),some (.list ((((aJ p).take (i + 1)).map (bh p l c)).map .int)),some (.list ((((aJ p).take (i + 1)).map (bh p h c)).map .int)),some (dC e),some (.int (cI p e.1 e.2 * c ^ (p.length - b - g))),none,none,none],rfl,?_,_,_,rfl⟩
  refine bV [some (dn p),some (.tuple [.int l,.int h,.int c]),some (dF m),some (.dict kds),some (.list ((aJ p).map dC)),some (.int (c ^ p.length)),some (.list ((((aJ p).take i).map (bh p l c)).map .int)),some (.list ((((aJ p).take i).map (bh p h c)).map .int)),some (dC e),some (.int (cI p e.1 e.2 * c ^ (p.length - b - g))),none,none,none] (aP (ak ((ue (c:=e) rfl rfl hD.fn).trans hw) (call_of (cons_of (ak rfl rfl ix3_2) (cons_of (ak (ak (sF (cons_of rfl rfl) (by show some (PyData.int ((p.map dR).length:Nat))=_; rw [List.length_map])) (ak rfl rfl (by rw [eC]; exact tV)) rfl) (ak rfl rfl (by rw [eC]; exact wb)) (by show some (PyData.int _)=_; rw [Z1])) rfl)) rfl OT) (cB (cx (uj uz ok) (pw_bt bc (show p.length - b - g<=24 by omega)))))) ?_
  rw [et,et,el,el]
  refine bV [some (dn p),some (.tuple [.int l,.int h,.int c]),some (dF m),some (.dict kds),some (.list ((aJ p).map dC)),some (.int (c ^ p.length)),some (.list ((((aJ p).take i).map (bh p l c)).map .int ++ [.int (cI p e.1 e.2 * c ^ (p.length - b - g) * (l ^ b * (c - l) ^ g))])),some (.list ((((aJ p).take i).map (bh p h c)).map .int)),some (dC e),some (.int (cI p e.1 e.2 * c ^ (p.length - b - g))),none,none,none] (ma rfl (ak rfl (call_of (cons_of rfl (cons_of (ak rfl rfl ix3_0) (cons_of (ak rfl rfl ix3_2) rfl))) rfl w2) (cB (cx bf QU))) (by rw [List.length_map,List.length_map,List.length_take]; omega)) ?_
  exact ma rfl (ak rfl (call_of (cons_of rfl (cons_of (ak rfl rfl ix3_1) (cons_of (ak rfl rfl ix3_2) rfl))) rfl w1) (cB (cx bf QT))) (by rw [List.length_map,List.length_map,List.length_take]; omega)
 ·rintro δ' ⟨x,y,rfl⟩
  rw [List.take_length]
  obtain ⟨fd,OU⟩:∃ fd:D,fd=.tuple [.list (Rf.map dC),dF q,dF (aX (Rf.map (bh p l c)).sum (c ^ p.length)),dF (aX (Rf.map (bh p h c)).sum (c ^ p.length))]:=⟨_,rfl⟩
  rw [<- OU] at vr vh
  have i0:bu fd (.int 0)=some (.list (Rf.map dC)):=by rw [OU]; rfl
  have i2:bu fd (.int 2)=some (dF (aX (Rf.map (bh p l c)).sum (c ^ p.length))):=by rw [OU]; rfl
  have i3:bu fd (.int 3)=some (dF (aX (Rf.map (bh p h c)).sum (c ^ p.length))):=by rw [OU]; rfl
  refine aM [some (dn p),some (.tuple [.int l,.int h,.int c]),some (dF m),some (.dict kds),some (.list ((aJ p).map dC)),some (.int (c ^ p.length)),some (.list (((aJ p).map (bh p l c)).map .int)),some (.list (((aJ p).map (bh p h c)).map .int)),x,y,some fd,none,none] (aP (call_of (cons_of rfl (cons_of (call_of (cons_of (ak rfl rfl ix3_0) (cons_of (ak rfl rfl ix3_2) rfl)) rfl ml) (cons_of (call_of (cons_of (ak rfl rfl ix3_1) (cons_of (ak rfl rfl ix3_2) rfl)) rfl mh) (cons_of rfl rfl)))) rfl vr)) ?_
  refine nX (we (dG (ak (bP (nh dC dC id (fun e=>decide (e∈Rf)) (aJ p) rfl (by omega) (fun e _=>dG (ak rfl (ak rfl rfl i0) (Av e Rf))) fun e _ _=>rfl)) (ak rfl rfl i0) (by rw [List.map_id,XO]; exact Lp Rf))) (kL (fg (call_of (cons_of rfl (cons_of rfl (cons_of rfl rfl))) rfl vh)))) ?_
  have sm:∀ (f:Int×Int->Int) (j:Nat) (δ:DS) (W:Option D),df [j,4,10] δ=[some (.list (((aJ p).map f).map .int)),some (.list ((aJ p).map dC)),some fd]->δ[4]?=some (some (.list ((aJ p).map dC)))->fI Bq (aa (bQ (cz (eK (aa (fI e9 (aa (ae 4) ai)) ai)) 1 [j,4,10] (aL 0) (gB (g2 (nR false) (g2 bu (ae 2) (ae 0)) (g2 bu (ae 3) (gC (.int (0)))))) (g2 bu (ae 1) (ae 0)))) ai) δ=some (.int (Rf.map f).sum):=by
   intro f j δ W Gr h4
   have Z2:ae 4 δ=some (.list ((aJ p).map dC)):=by unfold ae; rw [h4]; rfl
   have gE:∀ i,i < (aJ p).length->(aJ p)[i]?=some ((aJ p).getD i (0,0)):=fun i hi=>by rw [List.getD_eq_getElem?_getD,List.getElem?_eq_getElem hi]; rfl
   have:=nh (gi:=eK (aa (fI e9 (aa (ae 4) ai)) ai)) (ix:=[j,4,10]) (gc:=gB (g2 (nR false) (g2 bu (ae 2) (ae 0)) (g2 bu (ae 3) (gC (.int (0)))))) (ge:=g2 bu (ae 1) (ae 0)) (δ:=δ) (fun i:Nat=>PyData.int (0 + i)) PyData.int (fun i=>f ((aJ p).getD i (0,0))) (fun i=>decide ((aJ p).getD i (0,0)∈Rf)) (List.range (aJ p).length) (iw (cons_of (sF (cons_of Z2 rfl) (by show some (PyData.int _)=_; rw [List.length_map])) rfl) (by omega)) (by rw [List.length_range]; omega) (fun i hi=>by
    have hi:=List.mem_range.mp hi
    rw [Gr]
    exact dG (ak (ak rfl rfl (by rw [Int.zero_add]; exact h9 (by rw [List.getElem?_map,gE i hi]; rfl))) (ak rfl rfl i0) (Av _ Rf))) (fun i hi _=>by
    have hi:=List.mem_range.mp hi
    rw [Gr]
    exact ak rfl rfl (by rw [Int.zero_add]; exact h9 (by rw [List.getElem?_map,List.getElem?_map,gE i hi]; rfl)))
   rw [y0 (aJ p) (0,0) (fun e=>decide (e∈Rf)) f,XO] at this
   exact Lq this
  refine aM [some (dn p),some (.tuple [.int l,.int h,.int c]),some (dF m),some (.dict kds),some (.list ((aJ p).map dC)),some (.int (c ^ p.length)),some (.list (((aJ p).map (bh p l c)).map .int)),some (.list (((aJ p).map (bh p h c)).map .int)),x,y,some fd,some (.int (Rf.map (bh p l c)).sum),none] (aP (sm (bh p l c) 6 _ none rfl rfl)) ?_
  refine aM [some (dn p),some (.tuple [.int l,.int h,.int c]),some (dF m),some (.dict kds),some (.list ((aJ p).map dC)),some (.int (c ^ p.length)),some (.list (((aJ p).map (bh p l c)).map .int)),some (.list (((aJ p).map (bh p h c)).map .int)),x,y,some fd,some (.int (Rf.map (bh p l c)).sum),some (.int (Rf.map (bh p h c)).sum)] (aP (sm (bh p h c) 7 _ none rfl rfl)) ?_
  refine nX (we (kL (fg (call_of (cons_of (ak rfl rfl i2) (cons_of rfl (cons_of rfl rfl))) rfl (fr _ bW.1)))) (kL (fg (call_of (cons_of (ak rfl rfl i3) (cons_of rfl (cons_of rfl rfl))) rfl (fr _ bW.2))))) ?_
  refine ret (.bool true) ?_ (.mk rfl rfl)
  exact DZ (x:=true) (y:=true) (ak (ak rfl (ak rfl rfl (dX m)) (cB (cx bW.1 hm.bot))) (ak (ak rfl rfl (fm m)) rfl (cB (cx hm.top bU))) (by show some (PyData.bool (decide _))=_; rw [decide_eq_true hle])) (fun _=>BJ (cons_of rfl (cons_of rfl (cons_of rfl (cons_of rfl rfl)))) rfl vb rfl)
theorem Ez (ns:List Int) (h:ns.length<=63):sE [.list (ns.map .int)]=some (.bool true):=by
 rw [NT]
 refine bb ?_
 obtain ⟨k,hk⟩:∃ k:Nat,k=max 1 (min 3 ns.length):=⟨_,rfl⟩
 have hr:eK (aa (fI oA (aa (gC (.int (1))) (aa (fI vw (aa (gC (.int (3))) (aa (fI e9 (aa (ae 0) ai)) ai))) ai))) ai) [some (.list (ns.map .int)),none,none,none,none]=some (fT 0 k):=by
  refine iw ?_ (by omega)
  walk_at "pu"
  rw [List.length_map]
  congr 3
  split <;> split <;> omega
 refine jh 0 k (fun i δ=>∃ x y z w,δ=[some (.list (ns.map .int)),x,y,z,w]) hr ⟨none,none,none,none,rfl⟩ ?_ ?_
 ·rintro i δ hi ⟨x,y,z,w,rfl⟩
  rw [Int.zero_add]
  have vc:=qt ns i
  have vd:=qt ns (i + 1)
  generalize ns.getD i 0=a at vc
  generalize ns.getD (i + 1) 0=b at vd
  have m0:=Int.emod_nonneg a (show (4:Int)≠0 by decide)
  have m1:=Int.emod_lt_of_pos a (show (0:Int) < 4 by decide)
  obtain ⟨k,CS⟩:∃ k:Nat,(k:Int)=1 + a % 4:=⟨(1 + a % 4).toNat,by omega⟩
  obtain ⟨_,ep,p,rfl,hp,lp,k9⟩:=yN (a / 4) k (by omega) (by omega)
  obtain ⟨l,h',c',es,H⟩:=uy (b / 101)
  have n0:=Int.emod_nonneg b (show (101:Int)≠0 by decide)
  have n1:=Int.emod_lt_of_pos b (show (0:Int) < 101 by decide)
  have vm:=l9 (b % 101) 100 (by decide) (bD (show bt (100:Int)<=7 from dq (by decide)) (by decide))
  have XR:=bI (t:=b % 101) (show (100:Int)≠0 by decide)
  have Z3:Sz 40 (aX (b % 101) 100):=wD (by decide) (dq (by omega)) (dq (by decide))
  have e1:=XR.eq
  have p1:=XR.pos
  have DV:0<=(aX (b % 101) 100).1:=by
   have:0<=(aX (b % 101) 100).1 * 100:=by rw [e1]; exact Int.mul_nonneg n0 (by omega)
   omega
  have IB:(aX (b % 101) 100).1<=(aX (b % 101) 100).2:=by
   have:(aX (b % 101) 100).1 * 100<=100 * (aX (b % 101) 100).2:=by rw [e1]; exact Int.mul_le_mul_of_nonneg_right (by omega) (by omega)
   omega
  have va:=wU hp (by omega) k9 H _ Z3 DV IB
  rw [CS] at ep
  refine ⟨_,[some (.list (ns.map .int)),some (.int (i:Nat)),some (.int a),some (.int b),some (dn p)],rfl,?_,_,_,_,_,rfl⟩
  refine bV [some (.list (ns.map .int)),some (.int (i:Nat)),some (.int a),z,w] (aP (call_of (cons_of rfl (cons_of rfl rfl)) rfl vc)) ?_
  refine bV [some (.list (ns.map .int)),some (.int (i:Nat)),some (.int a),some (.int b),w] (aP (call_of (cons_of rfl (cons_of (ak rfl rfl rfl) rfl)) rfl vd)) ?_
  refine bV [some (.list (ns.map .int)),some (.int (i:Nat)),some (.int a),some (.int b),some (dn p)] (aP (call_of (cons_of (ak rfl rfl (dd 4 (by decide) (by decide))) (cons_of (ak rfl (ak rfl rfl (gm (by decide))) rfl) rfl)) rfl ep)) ?_
  exact sD (kL (fg (call_of (cons_of rfl (cons_of (call_of (cons_of (ak rfl rfl (dd 101 (by decide) (by decide))) rfl) rfl es) (cons_of (call_of (cons_of (ak rfl rfl (gm (by decide))) (cons_of rfl rfl)) rfl vm) rfl))) rfl va)))
 ·rintro δ' ⟨x,y,z,w,rfl⟩
  exact ret (.bool true) rfl (.mk rfl rfl)
abbrev n8:Stmt:=top 8
theorem uA:aI ["top","bottom","shared"] ["top","bottom"] (aq n8):=⟨rfl,rfl,rfl,by decide +kernel,rfl,by decide +kernel,by decide +kernel⟩
abbrev n9:Stmt:=top 9
theorem nj:aI ["one","other","shared","one_part","other_part","rest"] ["one","other"] (aq n9):=⟨rfl,rfl,rfl,by decide +kernel,rfl,by decide +kernel,by decide +kernel⟩
abbrev kR:Stmt:=top 10
theorem EA:aI ["one","other"] ["one","other"] (aq kR):=⟨rfl,rfl,rfl,by decide +kernel,rfl,by decide +kernel,by decide +kernel⟩
abbrev kT:Stmt:=top 11
theorem qB:aI ["one","other","left","right"] ["one","other"] (aq kT):=⟨rfl,rfl,rfl,by decide +kernel,rfl,by decide +kernel,by decide +kernel⟩
abbrev oa:Stmt:=top 12
theorem Hk:aI ["one","other"] ["one","other"] (aq oa):=⟨rfl,rfl,rfl,by decide +kernel,rfl,by decide +kernel,by decide +kernel⟩
abbrev kU:Stmt:=top 13
theorem jk:aI ["one","many","top","bottom","turn"] ["one","many"] (aq kU):=⟨rfl,rfl,rfl,by decide +kernel,rfl,by decide +kernel,by decide +kernel⟩
abbrev kW:Stmt:=top 14
theorem EB:aI ["one","other"] ["one","other"] (aq kW):=⟨rfl,rfl,rfl,by decide +kernel,rfl,by decide +kernel,by decide +kernel⟩
abbrev cm:Stmt:=top 15
theorem aY:aI ["one","other","rest","pair"] ["one","other"] (aq cm):=⟨rfl,rfl,rfl,by decide +kernel,rfl,by decide +kernel,by decide +kernel⟩
abbrev og:Stmt:=top 16
theorem iR:aI ["one","other","cut","upper","lower","many","rest"] ["one","other"] (aq og):=⟨rfl,rfl,rfl,by decide +kernel,rfl,by decide +kernel,by decide +kernel⟩
abbrev iA:Stmt:=top 18
theorem qC:aI ["plan","count","draws"] ["plan","count"] (aq iA):=⟨rfl,rfl,rfl,by decide +kernel,rfl,by decide +kernel,by decide +kernel⟩
abbrev gG:Stmt:=top 19
theorem jF:aI ["plan","told","draws","place"] ["plan"] (aq gG):=⟨rfl,rfl,rfl,by decide +kernel,rfl,by decide +kernel,by decide +kernel⟩
abbrev me:Stmt:=top 20
theorem Hm:aI ["plan"] ["plan"] (aq me):=⟨rfl,rfl,rfl,by decide +kernel,rfl,by decide +kernel,by decide +kernel⟩
abbrev fA:Stmt:=top 21
theorem iS:aI ["plan","told","draws","place"] ["plan"] (aq fA):=⟨rfl,rfl,rfl,by decide +kernel,rfl,by decide +kernel,by decide +kernel⟩
abbrev iI:Stmt:=top 22
theorem BL:aI ["place"] ["place"] (aq iI):=⟨rfl,rfl,rfl,by decide +kernel,rfl,by decide +kernel,by decide +kernel⟩
abbrev kX:Stmt:=top 23
theorem EC:aI ["count","sign"] ["count","sign"] (aq kX):=⟨rfl,rfl,rfl,by decide +kernel,rfl,by decide +kernel,by decide +kernel⟩
abbrev cJ:Stmt:=top 26
theorem eQ:aI ["fractions","common","fraction"] ["fractions"] (aq cJ):=⟨rfl,rfl,rfl,by decide +kernel,rfl,by decide +kernel,by decide +kernel⟩
abbrev ee:Stmt:=top 27
theorem uB:aI ["fractions","bottom"] ["fractions","bottom"] (aq ee):=⟨rfl,rfl,rfl,by decide +kernel,rfl,by decide +kernel,by decide +kernel⟩
abbrev fM:Stmt:=top 29
theorem gf:aI ["plan","beginning","ways","count","many","led"] ["plan","beginning"] (aq fM):=⟨rfl,rfl,rfl,by decide +kernel,rfl,by decide +kernel,by decide +kernel⟩
abbrev kY:Stmt:=top 32
theorem ED:aI ["count","low","high"] ["count","low","high"] (aq kY):=⟨rfl,rfl,rfl,by decide +kernel,rfl,by decide +kernel,by decide +kernel⟩
abbrev cK:Stmt:=top 33
theorem dh:aI ["plan","low","high","most","ways","choice","end","many"] ["plan","low","high","most"] (aq cK):=⟨rfl,rfl,rfl,by decide +kernel,rfl,by decide +kernel,by decide +kernel⟩
abbrev di:Stmt:=top 34
theorem oS:aI ["low","high"] ["low","high"] (aq di):=⟨rfl,rfl,rfl,by decide +kernel,rfl,by decide +kernel,by decide +kernel⟩
abbrev eR:Stmt:=top 35
theorem rB:aI ["most"] ["most"] (aq eR):=⟨rfl,rfl,rfl,by decide +kernel,rfl,by decide +kernel,by decide +kernel⟩
abbrev kZ:Stmt:=top 36
theorem qD:aI ["count","share","bad_part","good_part"] ["count","share"] (aq kZ):=⟨rfl,rfl,rfl,by decide +kernel,rfl,by decide +kernel,by decide +kernel⟩
abbrev bj:Stmt:=top 37
theorem c6:aI ["choice","ratios","tops","places"] ["choice"] (aq bj):=⟨rfl,rfl,rfl,by decide +kernel,rfl,by decide +kernel,by decide +kernel⟩
abbrev k0:Stmt:=top 38
theorem eh:aI ["choice","most","rule","wrong","caught","end","end_ratio","end_wrong","end_caught","more"] ["choice","most"] (aq k0):=⟨rfl,rfl,rfl,by decide +kernel,rfl,by decide +kernel,by decide +kernel⟩
abbrev fB:Stmt:=top 39
theorem wW:aI ["rule"] ["rule"] (aq fB):=⟨rfl,rfl,rfl,by decide +kernel,rfl,by decide +kernel,by decide +kernel⟩
abbrev gH:Stmt:=top 41
theorem wX:aI ["_law_script","_law_k"] ["_law_script","_law_k"] (aq gH):=⟨rfl,rfl,rfl,by decide +kernel,rfl,by decide +kernel,by decide +kernel⟩
abbrev eS:Stmt:=top 42
theorem gO:aI ["_law_cell_here","_law_base","_law_many","_law_row","_law_k"] ["_law_cell_here","_law_base","_law_many"] (aq eS):=⟨rfl,rfl,rfl,by decide +kernel,rfl,by decide +kernel,by decide +kernel⟩
abbrev fN:Stmt:=top 43
theorem ip:aI ["_law_cell_here","_law_base","_law_many","_law_row","_law_k","_law_number"] ["_law_cell_here","_law_base","_law_many"] (aq fN):=⟨rfl,rfl,rfl,by decide +kernel,rfl,by decide +kernel,by decide +kernel⟩
abbrev eA:Stmt:=top 44
theorem bZ:aI ["_law_cell_here","_law_most_here","_law_rest","_law_many","_law_digits_here","_law_rows","_law_come","_law_at","_law_row"] ["_law_cell_here","_law_most_here"] (aq eA):=⟨rfl,rfl,rfl,by decide +kernel,rfl,by decide +kernel,by decide +kernel⟩
abbrev eB:Stmt:=top 46
theorem fO:aI ["_law_plan_here","_law_found","_law_n","_law_on","_law_come"] ["_law_plan_here"] (aq eB):=⟨rfl,rfl,rfl,by decide +kernel,rfl,by decide +kernel,by decide +kernel⟩
abbrev gI:Stmt:=top 47
theorem eD:aI ["_law_plan_here","_law_ways_here","_law_n","_law_row","_law_bad","_law_here","_law_count"] ["_law_plan_here"] (aq gI):=⟨rfl,rfl,rfl,by decide +kernel,rfl,by decide +kernel,by decide +kernel⟩
abbrev fP:Stmt:=top 48
theorem uC:aI ["_law_found"] ["_law_found"] (aq fP):=⟨rfl,rfl,rfl,by decide +kernel,rfl,by decide +kernel,by decide +kernel⟩
abbrev dN:Stmt:=top 49
theorem kq:aI ["_law_one","_law_other"] ["_law_one","_law_other"] (aq dN):=⟨rfl,rfl,rfl,by decide +kernel,rfl,by decide +kernel,by decide +kernel⟩
abbrev dO:Stmt:=top 50
theorem qE:aI ["_law_found","_law_top","_law_bottom"] ["_law_found","_law_top","_law_bottom"] (aq dO):=⟨rfl,rfl,rfl,by decide +kernel,rfl,by decide +kernel,by decide +kernel⟩
abbrev eU:Stmt:=top 51
theorem cW:aI ["_law_cell_here","_law_bottom","_law_rest","_law_low","_law_high"] ["_law_cell_here"] (aq eU):=⟨rfl,rfl,rfl,by decide +kernel,rfl,by decide +kernel,by decide +kernel⟩
abbrev gJ:Stmt:=top 52
theorem oJ:aI ["_law_top","_law_bottom","_law_common"] ["_law_top","_law_bottom"] (aq gJ):=⟨rfl,rfl,rfl,by decide +kernel,rfl,by decide +kernel,by decide +kernel⟩
abbrev fQ:Stmt:=top 53
theorem iq:aI ["_law_base","_law_many","_law_made_here","_law_k"] ["_law_base","_law_many"] (aq fQ):=⟨rfl,rfl,rfl,by decide +kernel,rfl,by decide +kernel,by decide +kernel⟩
abbrev eV:Stmt:=top 54
theorem rC:aI ["_law_count","_law_top","_law_bottom"] ["_law_count","_law_top","_law_bottom"] (aq eV):=⟨rfl,rfl,rfl,by decide +kernel,rfl,by decide +kernel,by decide +kernel⟩
abbrev dQ:Stmt:=top 55
theorem gg:aI ["_law_found","_law_places","_law_both","_law_end","_law_top","_law_bottom"] ["_law_found","_law_places","_law_both"] (aq dQ):=⟨rfl,rfl,rfl,by decide +kernel,rfl,by decide +kernel,by decide +kernel⟩
abbrev fD:Stmt:=top 56
theorem eE:aI ["_law_lows","_law_highs","_law_wrong","_law_caught","_law_sums","_law_low","_law_high","_law_one","_law_other"] ["_law_lows","_law_highs","_law_wrong","_law_caught"] (aq fD):=⟨rfl,rfl,rfl,by decide +kernel,rfl,by decide +kernel,by decide +kernel⟩
abbrev cP:Stmt:=top 57
theorem bX:aI ["_law_plan_here","_law_both","_law_most_here","_law_ways_here","_law_places","_law_unit","_law_lows","_law_highs","_law_end","_law_fill","_law_found","_law_wrong","_law_caught"] ["_law_plan_here","_law_both","_law_most_here"] (aq cP):=⟨rfl,rfl,rfl,by decide +kernel,rfl,by decide +kernel,by decide +kernel⟩
abbrev lB:Stmt:=top 58
theorem qF:aI ["_law_script","_law_k","_law_cell_here","_law_more","_law_plan_here"] ["_law_script"] (aq lB):=⟨rfl,rfl,rfl,by decide +kernel,rfl,by decide +kernel,by decide +kernel⟩
section
variable {P:Program} {w:World} {K:PySem.W.Frag} {mg:Str->Option Value} {base:Heap}
theorem Hn (F:Df K mg "leap" og ["one","other"]) (B:Bs mg) (qG:Cn mg "WINDOW" (.int (240))) (y3:Cn mg "SHED" (.int (120))):Dn P w K mg base 1 "leap" ["one","other"] (cS K 2 yy):=
 bG [] DP F iR fun f cR A outer s H E hr=>(ar (aA (av (i:=2) iR.nd rfl (Or.inl rfl) (au c7 fH (PE.sh (zL (af (pv 0)))) (PE.sh (ag (j6 qG))))))
  (ar (aA (av (i:=3) iR.nd rfl (Or.inl rfl) (bz (ab (au xC az (af (pv 0)) (af (pv 2))) (ab (ag ah) (ab (ag ah) aj))))))
  (ar (aA (av (i:=4) iR.nd rfl (Or.inl rfl) (bz (ab (au xC az (af (pv 1)) (af (pv 2))) (ab (ag ah) (ab (ag ah) aj))))))
  (ar (mU PassesOwn.never (br (nH hr) nI (PE.sh (au xC az (PE.sh (ay (af (pv 4)) (PE.sh (ag ah)))) (PE.sh (ag (j6 y3))))) (PE.sh (ag ah)) (b0 _)) (ar (aA (av (i:=5) iR.nd rfl (Or.inl rfl) (au bE az (PE.sh (ay (af (pv 3)) (PE.sh (ag ah)))) (PE.sh (ay (af (pv 4)) (PE.sh (ag ah)))))))
  (ar (aA (av (i:=6) iR.nd rfl (Or.inl rfl) (bz (ab (au c7 fH (PE.sh (ay (af (pv 3)) (PE.sh (ag ah)))) (PE.sh (au aU az (af (pv 5)) (PE.sh (ay (af (pv 4)) (PE.sh (ag ah))))))) (ab (au c7 fH (PE.sh (ay (af (pv 3)) (PE.sh (ag ah)))) (PE.sh (au aU az (af (pv 5)) (PE.sh (ay (af (pv 4)) (PE.sh (ag ah))))))) (ab (au c7 fH (PE.sh (ay (af (pv 3)) (PE.sh (ag ah)))) (PE.sh (au aU az (af (pv 5)) (PE.sh (ay (af (pv 4)) (PE.sh (ag ah))))))) aj))))))
  (ar (aA (av (i:=3) iR.nd rfl (Or.inl rfl) (ao (pv 4))))
  (ax (aA (av (i:=4) iR.nd rfl (Or.inl rfl) (ao (pv 6)))))))))
  (ax (be (bz (ab (aZ i9 kD rfl B.abs nF (aE (PE.sh (au ba aT (PE.sh (au aU az (PE.sh (ay (af (pv 3)) (PE.sh (ag ah)))) (af (pv 0)))) (PE.sh (au aU az (PE.sh (ay (af (pv 3)) (PE.sh (ag ah)))) (af (pv 1)))))) aO)) (ab (aZ i9 kD rfl B.abs nF (aE (PE.sh (au ba aT (PE.sh (au aU az (PE.sh (ay (af (pv 4)) (PE.sh (ag ah)))) (af (pv 0)))) (PE.sh (au aU az (PE.sh (ay (af (pv 4)) (PE.sh (ag ah)))) (af (pv 1)))))) aO)) aj)))))))))
theorem la (F:Df K mg "greatest_divisor" cm ["one","other"]) (B:Bs mg) (y4:Cn mg "LONG" (.int (4000))) (y6:Dn P w K mg base 1 "leap" ["one","other"] (cS K 2 yy)):Dn P w K mg base 2 "greatest_divisor" ["one","other"] (cS K 2 bg):=
 bG [] fq F aY fun f cR A outer s H E hr=>(ar (aA (av (i:=0) aY.nd rfl (Or.inl rfl) (aZ i9 kD rfl B.abs nF (aE (af (pv 0)) aO))))
  (ar (aA (av (i:=1) aY.nd rfl (Or.inl rfl) (aZ i9 kD rfl B.abs nF (aE (af (pv 1)) aO))))
  (ar (mU PassesOwn.never (br (nH hr) nI (af (pv 1)) (PE.sh (ag ah)) (b0 _)) (ar (aA (av (i:=2) aY.nd rfl (Or.inl rfl) (au cH az (af (pv 0)) (af (pv 1)))))
  (ar (aA (av (i:=0) aY.nd rfl (Or.inl rfl) (ao (pv 1))))
  (ar (aA (av (i:=1) aY.nd rfl (Or.inl rfl) (ao (pv 2))))
  (ax (fJ (br oq c9 (PE.sh (zL (af (pv 1)))) (PE.sh (ag (j6 y4))) (b0 _)) (ar (aA (av (i:=3) aY.nd rfl (Or.inl rfl) (aB y6 hr (by decide) (ab (ao (pv 0)) (ab (ao (pv 1)) aj)))))
  (ar (aA (av (i:=0) aY.nd rfl (Or.inl rfl) (ay (af (pv 3)) (PE.sh (ag ah)))))
  (ax (aA (av (i:=1) aY.nd rfl (Or.inl rfl) (ay (af (pv 3)) (PE.sh (ag ah)))))))) da))))))
  (ax (be (ao (pv 0)))))))
theorem Ho (F:Df K mg "frac" n8 ["top","bottom"]) (B:Bs mg) (bo:Dn P w K mg base 2 "greatest_divisor" ["one","other"] (cS K 2 bg)):Dn P w K mg base 3 "frac" ["top","bottom"] (cS K 2 iY):=
 bG [] yz F uA fun f cR A outer s H E hr=>(ar (fJ (br (sW hr) imp_eq (af (pv 1)) (PE.sh (ag ah)) (b0 _)) (ax pR) da)
  (ar (aA (av (i:=2) uA.nd rfl (Or.inl rfl) (aB bo hr (by decide) (ab (ao (pv 0)) (ab (ao (pv 1)) aj)))))
  (ar (fJ (br oo c9 (af (pv 1)) (PE.sh (ag ah)) (b0 _)) (ax (aA (av (i:=2) uA.nd rfl (Or.inl rfl) (xM (af (pv 2)))))) da)
  (ax (be (bz (ab (au bE az (af (pv 0)) (af (pv 2))) (ab (au bE az (af (pv 1)) (af (pv 2))) aj))))))))
theorem Hq (F:Df K mg "plus" n9 ["one","other"]) (B:Bs mg) (i6:Dn P w K mg base 3 "frac" ["top","bottom"] (cS K 2 iY)) (bo:Dn P w K mg base 2 "greatest_divisor" ["one","other"] (cS K 2 bg)):Dn P w K mg base 4 "plus" ["one","other"] (cS K 2 jy):=
 bG [] yA F nj fun f cR A outer s H E hr=>(ar (aA (av (i:=2) nj.nd rfl (Or.inl rfl) (aB bo hr (by decide) (ab (ay (af (pv 0)) (PE.sh (ag ah))) (ab (ay (af (pv 1)) (PE.sh (ag ah))) aj)))))
  (ar (aA (av (i:=3) nj.nd rfl (Or.inl rfl) (au bE az (PE.sh (ay (af (pv 0)) (PE.sh (ag ah)))) (af (pv 2)))))
  (ar (aA (av (i:=4) nj.nd rfl (Or.inl rfl) (au bE az (PE.sh (ay (af (pv 1)) (PE.sh (ag ah)))) (af (pv 2)))))
  (ar (aA (av (i:=5) nj.nd rfl (Or.inl rfl) (aB i6 hr (by decide) (ab (au ba aT (PE.sh (au aU az (PE.sh (ay (af (pv 0)) (PE.sh (ag ah)))) (af (pv 4)))) (PE.sh (au aU az (PE.sh (ay (af (pv 1)) (PE.sh (ag ah)))) (af (pv 3))))) (ab (ao (pv 2)) aj)))))
  (ax (be (bz (ab (ay (af (pv 5)) (PE.sh (ag ah))) (ab (au aU az (PE.sh (au aU az (af (pv 3)) (af (pv 4)))) (PE.sh (ay (af (pv 5)) (PE.sh (ag ah))))) aj)))))))))
theorem EE (F:Df K mg "minus" kR ["one","other"]) (B:Bs mg) (mf:Dn P w K mg base 4 "plus" ["one","other"] (cS K 2 jy)):Dn P w K mg base 5 "minus" ["one","other"] (cS K 2 nc):=
 bG [] tX F EA fun f cR A outer s H E hr=>(ax (be (aB mf hr (by decide) (ab (ao (pv 0)) (ab (bz (ab (xM (PE.sh (ay (af (pv 1)) (PE.sh (ag ah))))) (ab (ay (af (pv 1)) (PE.sh (ag ah))) aj))) aj)))))
theorem EF (F:Df K mg "times" kT ["one","other"]) (B:Bs mg) (i6:Dn P w K mg base 3 "frac" ["top","bottom"] (cS K 2 iY)):Dn P w K mg base 4 "times" ["one","other"] (cS K 2 iP):=
 bG [] tY F qB fun f cR A outer s H E hr=>(ar (aA (av (i:=2) qB.nd rfl (Or.inl rfl) (aB i6 hr (by decide) (ab (ay (af (pv 0)) (PE.sh (ag ah))) (ab (ay (af (pv 1)) (PE.sh (ag ah))) aj)))))
  (ar (aA (av (i:=3) qB.nd rfl (Or.inl rfl) (aB i6 hr (by decide) (ab (ay (af (pv 1)) (PE.sh (ag ah))) (ab (ay (af (pv 0)) (PE.sh (ag ah))) aj)))))
  (ax (be (bz (ab (au aU az (PE.sh (ay (af (pv 2)) (PE.sh (ag ah)))) (PE.sh (ay (af (pv 3)) (PE.sh (ag ah))))) (ab (au aU az (PE.sh (ay (af (pv 2)) (PE.sh (ag ah)))) (PE.sh (ay (af (pv 3)) (PE.sh (ag ah))))) aj)))))))
theorem Hr (F:Df K mg "over" oa ["one","other"]) (B:Bs mg) (i6:Dn P w K mg base 3 "frac" ["top","bottom"] (cS K 2 iY)) (jG:Dn P w K mg base 4 "times" ["one","other"] (cS K 2 iP)):Dn P w K mg base 5 "over" ["one","other"] (cS K 2 ql):=
 bG [] yB F Hk fun f cR A outer s H E hr=>(ax (be (aB jG hr (by decide) (ab (ao (pv 0)) (ab (aB i6 hr (by decide) (ab (ay (af (pv 1)) (PE.sh (ag ah))) (ab (ay (af (pv 1)) (PE.sh (ag ah))) aj))) aj)))))
theorem EG (F:Df K mg "power" kU ["one","many"]) (B:Bs mg):Dn P w K mg base 1 "power" ["one","many"] (cS K 2 kM):=
 bG [] tZ F jk fun f cR A outer s H E hr=>(ar (aA (av (i:=2) jk.nd rfl (Or.inl rfl) (ag ah)))
  (ar (aA (av (i:=3) jk.nd rfl (Or.inl rfl) (ag ah)))
  (ar (de PassesOwn.never rfl (gu B.range (ab (ao (pv 1)) aj)) (aG (aN (i:=4) jk.nd rfl (Or.inl rfl)))
   (ar (aA (av (i:=2) jk.nd rfl (Or.inl rfl) (au aU az (af (pv 2)) (PE.sh (ay (af (pv 0)) (PE.sh (ag ah)))))))
  (ax (aA (av (i:=3) jk.nd rfl (Or.inl rfl) (au aU az (af (pv 3)) (PE.sh (ay (af (pv 0)) (PE.sh (ag ah))))))))))
  (ax (be (bz (ab (ao (pv 2)) (ab (ao (pv 3)) aj))))))))
theorem EH (F:Df K mg "under" kW ["one","other"]) (B:Bs mg):Dn P w K mg base 1 "under" ["one","other"] (cS K 2 fh):=
 bG [] t4 F EB fun f cR A outer s H E hr=>(ax (be (pM oo c9 (PE.sh (au aU az (PE.sh (ay (af (pv 0)) (PE.sh (ag ah)))) (PE.sh (ay (af (pv 1)) (PE.sh (ag ah)))))) (PE.sh (au aU az (PE.sh (ay (af (pv 1)) (PE.sh (ag ah)))) (PE.sh (ay (af (pv 0)) (PE.sh (ag ah)))))) (b0 _))))
theorem y7 (F:Df K mg "goes_on" iA ["plan","count"]) (B:Bs mg):Dn P w K mg base 1 "goes_on" ["plan","count"] (cS K 2 iy):=
 bG [] n4 F qC fun f cR A outer s H E hr=>(ar (aA (av (i:=2) qC.nd rfl (Or.inl rfl) (au ba aT (PE.sh (ay (af (pv 1)) (PE.sh (ag ah)))) (PE.sh (ay (af (pv 1)) (PE.sh (ag ah)))))))
  (ax (be (xN (CO B6 c9 oo c9 (PE.sh (ag ah)) (af (pv 2)) (PE.sh (aZ bY c5 rfl B.len eZ (aE (af (pv 0)) aO)))) (xr (pM J1 J4 (PE.sh (ay (af (pv 1)) (PE.sh (ag ah)))) (PE.sh (ay (af (pv 0)) (af (pv 2)))) (by with_unfolding_all rfl)))))))
theorem BM (F:Df K mg "led_to" iI ["place"]) (B:Bs mg):Dn P w K mg base 1 "led_to" ["place"] (oz K 1 iF):=
 iN [] qo F BL fun f cR A outer s H E hr=>(ax (mT (lO B.sorted B.set (PE.sh (PE.nE (sV mO mP (PE.sh (PE.nE (pP mI vz rfl B.list zz (aE (af (pv 0)) aO)))) (PE.sh (PE.nE (PE.Gd (d7 (aq iI) ["place"] [] ["bad"] ["bad"] lR (PI.c (cc (ao (pv 0)))) (fun _ _ _ _ _ _=>(aG (aN (i:=0) (show (["bad"]:List Str).Nodup from by decide +kernel) rfl (Or.inl rfl)))) (fun _ _ _ _ _ _=>ie) (fun _ _ _ _ _ _=>(au ba aT (af (pv 0)) (PE.sh (ag ah))))))))))))))
theorem y8 (F:Df K mg "come_to" gG ["plan"]) (B:Bs mg) (qH:Dn P w K mg base 1 "led_to" ["place"] (oz K 1 iF)):Dn P w K mg base 2 "come_to" ["plan"] (oz K 1 gy):=
 iN [1] n5 F jF fun f cR A outer s H E hr=>(ar (gK (av (i:=1) jF.nd rfl (Or.inl rfl) (g5 (ab (bz (ab (ag ah) (ab (ag ah) aj))) aj))))
  (ar (de PassesOwn.never rfl (Di B.enumerate (ao (pv 0))) (iM rfl (cf (aG (aN (i:=2) jF.nd rfl (Or.inr rfl))) (cf (aG (aN (i:=3) jF.nd rfl (Or.inl rfl))) iL)))
   (ax (nL (eJ (lr PySem.F.plainAttrs_list PySem.F.slot_list_extend PySem.F.type_list_extend nA (pv 1) (cn (PE.Gd (d7 (aq gG) ["plan","told","draws","place"] [2] ["bad","draws"] ["bad"] lR (PI.c (cc (PE.nE (gS qH hr (by decide) (ab (ao (pv 3)) aj))))) (fun _ _ _ _ _ _=>(aG (aN (i:=0) (show (["bad","draws"]:List Str).Nodup from by decide +kernel) rfl (Or.inl rfl)))) (fun _ _ _ _ _ _=>ie) (fun _ _ _ _ _ _=>(bz (ab (ao (pv 0)) (ab (au c7 fH (af (pv 1)) (af (pv 0))) aj)))))) dz))))))
  (ax (gp (pv 1)))))
theorem Hs (F:Df K mg "ends" me ["plan"]) (B:Bs mg) (oh:Dn P w K mg base 2 "come_to" ["plan"] (oz K 1 gy)) (oi:Dn P w K mg base 1 "goes_on" ["plan","count"] (cS K 2 iy)):Dn P w K mg base 3 "ends" ["plan"] (oz K 1 qp):=
 iN [] yC F Hm fun f cR A outer s H E hr=>(ax (mT (d7 (aq me) ["plan"] [0] ["count","plan"] ["count"] lR (PI.c (cc (PE.nE (gS oh hr (by decide) (ab (ao (pv 0)) aj))))) (fun _ _ _ _ _ _=>(aG (aN (i:=0) (show (["count","plan"]:List Str).Nodup from by decide +kernel) rfl (Or.inl rfl)))) (fun _ _ _ _ _ _=>(nP (ib (cN (PE.sh (aB oi hr (by decide) (ab (ao (pv 1)) (ab (ao (pv 0)) aj)))))))) (fun _ _ _ _ _ _=>(ao (pv 0))))))
theorem wY (F:Df K mg "drawn_on" fA ["plan"]) (B:Bs mg):Dn P w K mg base 1 "drawn_on" ["plan"] (oz K 1 gz):=
 iN [1] lV F iS fun f cR A outer s H E hr=>(ar (gK (av (i:=1) iS.nd rfl (Or.inl rfl) (g5 aj)))
  (ar (de PassesOwn.never rfl (vN B.enumerate (ao (pv 0))) (iM rfl (cf (aG (aN (i:=2) iS.nd rfl (Or.inr rfl))) (cf (aG (aN (i:=3) iS.nd rfl (Or.inl rfl))) iL)))
   (ax (nL (eJ (lr PySem.F.plainAttrs_list PySem.F.slot_list_extend PySem.F.type_list_extend nA (pv 1) (cn (PE.Gd (d7 (aq fA) ["plan","told","draws","place"] [2] ["bad","draws"] ["bad"] lR (PI.c (cc (ao (pv 3)))) (fun _ _ _ _ _ _=>(aG (aN (i:=0) (show (["bad","draws"]:List Str).Nodup from by decide +kernel) rfl (Or.inl rfl)))) (fun _ _ _ _ _ _=>ie) (fun _ _ _ _ _ _=>(bz (ab (ao (pv 0)) (ab (au c7 fH (af (pv 1)) (af (pv 0))) aj)))))) dz))))))
  (ax (gp (pv 1)))))
theorem EI (F:Df K mg "after" kX ["count","sign"]) (B:Bs mg):Dn P w K mg base 1 "after" ["count","sign"] (cS K 2 fX):=
 bG [] t5 F EC fun f cR A outer s H E hr=>(ar (fJ (br (sW hr) imp_eq (af (pv 1)) (PE.sh (xJ xq)) (b0 _)) (ax (be (bz (ab (au ba aT (PE.sh (ay (af (pv 0)) (PE.sh (ag ah)))) (PE.sh (ag ah))) (ab (ay (af (pv 0)) (PE.sh (ag ah))) aj))))) da)
  (ax (be (bz (ab (ay (af (pv 0)) (PE.sh (ag ah))) (ab (au ba aT (PE.sh (ay (af (pv 0)) (PE.sh (ag ah)))) (PE.sh (ag ah))) aj))))))
theorem oj (F:Df K mg "common_bottom" cJ ["fractions"]) (B:Bs mg) (bo:Dn P w K mg base 2 "greatest_divisor" ["one","other"] (cS K 2 bg)):Dn P w K mg base 3 "common_bottom" ["fractions"] (cS K 1 dH):=
 bG [] g9 F eQ fun f cR A outer s H E hr=>(ar (aA (av (i:=1) eQ.nd rfl (Or.inl rfl) (ag ah)))
  (ar (de PassesOwn.never rfl (cc (ao (pv 0))) (aG (aN (i:=2) eQ.nd rfl (Or.inl rfl)))
   (ax (aA (av (i:=1) eQ.nd rfl (Or.inl rfl) (au aU az (PE.sh (au bE az (af (pv 1)) (PE.sh (aB bo hr (by decide) (ab (ao (pv 1)) (ab (ay (af (pv 2)) (PE.sh (ag ah))) aj)))))) (PE.sh (ay (af (pv 2)) (PE.sh (ag ah)))))))))
  (ax (be (ao (pv 1))))))
theorem uD (F:Df K mg "tops_over" ee ["fractions","bottom"]) (B:Bs mg):Dn P w K mg base 1 "tops_over" ["fractions","bottom"] (oz K 2 gY):=
 iN [] kg F uB fun f cR A outer s H E hr=>(ax (mT (PE.Gd (d7 (aq ee) ["fractions","bottom"] [1] ["fraction","bottom"] ["fraction"] lR (PI.c (cc (ao (pv 0)))) (fun _ _ _ _ _ _=>(aG (aN (i:=0) (show (["fraction","bottom"]:List Str).Nodup from by decide +kernel) rfl (Or.inl rfl)))) (fun _ _ _ _ _ _=>ie) (fun _ _ _ _ _ _=>(au aU az (PE.sh (ay (af (pv 0)) (PE.sh (ag ah)))) (PE.sh (au bE az (af (pv 1)) (PE.sh (ay (af (pv 0)) (PE.sh (ag ah))))))))))))
theorem uE (F:Df K mg "ways_from" fM ["plan","beginning"]) (B:Bs mg) (pq:Dn P w K mg base 1 "after" ["count","sign"] (cS K 2 fX)) (mm:Dn P w K mg base 1 "drawn_on" ["plan"] (oz K 1 gz)):Dn P w K mg base 2 "ways_from" ["plan","beginning"] (cS K 2 fK):=
 bG [2] kh F gf fun f cR A outer s H E hr=>let hu:=Nat.lt_of_le_of_lt (Nat.add_le_add_left (show 1<=64 by decide) _) hr.units
  (ar (zR (av (i:=2) gf.nd rfl (Or.inl rfl) (vO hu (af (pv 1)) (ag ah))))
  (ar (de PassesOwn.never rfl (cc (PE.nE (gS mm hr (by decide) (ab (ao (pv 0)) aj)))) (aG (aN (i:=3) gf.nd rfl (Or.inl rfl)))
   (ar (aA (av (i:=4) gf.nd rfl (Or.inl rfl) (p6 hu (af (pv 2)) (af (pv 3)) (ag ah))))
  (ax (de PassesOwn.never rfl (cc (bz (ab (aB pq hr (by decide) (ab (ao (pv 3)) (ab (xJ xq) aj))) (ab (aB pq hr (by decide) (ab (ao (pv 3)) (ab (xJ xq) aj))) aj)))) (aG (aN (i:=5) gf.nd rfl (Or.inl rfl)))
   (ax (zQ (zw hu (pv 2) (af (pv 5)) (au ba aT (PE.sh (p6 hu (af (pv 2)) (af (pv 5)) (ag ah))) (af (pv 4))) (by rfl))))))))
  (ax (gp (pv 2)))))
theorem oT (F:Df K mg "check_shares" di ["low","high"]) (B:Bs mg) {dA:Addr} (eF:Cn mg "NOUGHT" (.ref dA)) (eG:(dA,[V.int (0),V.int (1)])∈b8) {fE:Addr} (ir:Cn mg "WHOLE" (.ref fE)) (iu:(fE,[V.int (1),V.int (1)])∈b8) (fi:Dn P w K mg base 1 "under" ["one","other"] (cS K 2 fh)):Dn P w K mg base 2 "check_shares" ["low","high"] (cS K 2 cF):=
 bG [] fY F oS fun f cR A outer s H E hr=>(ax (fJ (ib (PW.pt (kC (cN (PE.sh (aB fi hr (by decide) (ab (oD (j6 eF) eG (fun _=>(.cons (.int _) (.cons (.int _) .nil)))) (ab (ao (pv 0)) aj))))) (kC (cN (PE.sh (aB fi hr (by decide) (ab (ao (pv 0)) (ab (ao (pv 1)) aj))))) (pw_and1 (cN (PE.sh (aB fi hr (by decide) (ab (ao (pv 1)) (ab (oD (j6 ir) iu (fun _=>(.cons (.int _) (.cons (.int _) .nil)))) aj)))))))))) (ax pR) da))
theorem EJ (F:Df K mg "often" kZ ["count","share"]) (B:Bs mg) {fE:Addr} (ir:Cn mg "WHOLE" (.ref fE)) (iu:(fE,[V.int (1),V.int (1)])∈b8) (uF:Dn P w K mg base 5 "minus" ["one","other"] (cS K 2 nc)) (pw:Dn P w K mg base 1 "power" ["one","many"] (cS K 2 kM)):Dn P w K mg base 6 "often" ["count","share"] (cS K 2 ij):=
 bG [] t6 F qD fun f cR A outer s H E hr=>(ar (aA (av (i:=2) qD.nd rfl (Or.inl rfl) (aB pw hr (by decide) (ab (ao (pv 1)) (ab (ay (af (pv 0)) (PE.sh (ag ah))) aj)))))
  (ar (aA (av (i:=3) qD.nd rfl (Or.inl rfl) (aB pw hr (by decide) (ab (aB uF hr (by decide) (ab (oD (j6 ir) iu (fun _=>(.cons (.int _) (.cons (.int _) .nil)))) (ab (ao (pv 1)) aj))) (ab (ay (af (pv 0)) (PE.sh (ag ah))) aj)))))
  (ax (be (bz (ab (au aU az (PE.sh (ay (af (pv 2)) (PE.sh (ag ah)))) (PE.sh (ay (af (pv 3)) (PE.sh (ag ah))))) (ab (au aU az (PE.sh (ay (af (pv 2)) (PE.sh (ag ah)))) (PE.sh (ay (af (pv 3)) (PE.sh (ag ah))))) aj)))))))
theorem EK (F:Df K mg "ratio" kY ["count","low","high"]) (B:Bs mg) (dj:Dn P w K mg base 2 "check_shares" ["low","high"] (cS K 2 cF)) (iT:Dn P w K mg base 6 "often" ["count","share"] (cS K 2 ij)) (y9:Dn P w K mg base 5 "over" ["one","other"] (cS K 2 ql)):Dn P w K mg base 7 "ratio" ["count","low","high"] (cS K 3 ng):=
 bG [] t7 F ED fun f cR A outer s H E hr=>(ar (sZ (eJ (aB dj hr (by decide) (ab (ao (pv 1)) (ab (ao (pv 2)) aj)))))
  (ax (be (aB y9 hr (by decide) (ab (aB iT hr (by decide) (ab (ao (pv 0)) (ab (ao (pv 2)) aj))) (ab (aB iT hr (by decide) (ab (ao (pv 0)) (ab (ao (pv 1)) aj))) aj))))))
theorem lb {c0 P0:Addr} (F:ND K mg "by_falling_ratio" bj ["choice"] c0) (B:Bs mg) (HD:PySem.W.codeHdIn K c0 P0=true) (ML:(P0,(⟨130,44,130,70⟩:Pos),("by_falling_ratio.<locals>.<lambda>":Str))∈b9) (BB:Gf mg base) (hV:Dn P w K mg base 3 "common_bottom" ["fractions"] (cS K 1 dH)) (kr:Dn P w K mg base 1 "tops_over" ["fractions","bottom"] (oz K 2 gY)):Dn P w K mg base 4 "by_falling_ratio" ["choice"] (oz K 1 cG):=
 v8 [] fu F c6 fun f A outer s H E hr=>(ar (aA (PS.nE (PS.Gd (vM (i:=1) (aq bj) ["choice","ratios","tops","places"] [] ["part"] ["part"] c6.nd rfl rfl lR (PI.c (cc (ao (pv 0)))) (fun _ _ _ _ _ _=>(aG (aN (i:=0) (show (["part"]:List Str).Nodup from by decide +kernel) rfl (Or.inl rfl)))) (fun _ _ _ _ _ _=>ie) (fun _ _ _ _ _ _=>(ay (af (pv 0)) (PE.sh (ag ah))))))))
  (ar (aA (av (i:=2) c6.nd rfl (Or.inr rfl) (PE.nE (gS kr hr (by decide) (ab (ao (pv 1)) (ab (aB hV hr (by decide) (ab (ao (pv 1)) aj)) aj))))))
  (ar (aA (av (i:=3) c6.nd rfl (Or.inl rfl) (PE.nE (v7 (kc:=0) (pn:="place") (fv:=["tops"]) (ix:=[2]) (aq bj) B.sorted (DD B.range (ab (aZ bY c5 rfl B.len eZ (aE (af (pv 0)) aO)) aj)) hr (by decide) BB HD ML ⟨rfl,rfl,rfl,by decide +kernel,by decide +kernel,by decide +kernel,by decide +kernel⟩ (fun base f c' cl A outer s H E hr=>(xM (PE.sh (ay (af (pv 1)) (af (pv 0)))))) (fun _ _ _ _ _ _ us hl=>match us,hl with | [_],_=>rfl)))))
  (ax (mT (PE.Gd (d7 (aq bj) ["choice","ratios","tops","places"] [0] ["place","choice"] ["place"] lR (PI.c (cc (ao (pv 3)))) (fun _ _ _ _ _ _=>(aG (aN (i:=0) (show (["place","choice"]:List Str).Nodup from by decide +kernel) rfl (Or.inl rfl)))) (fun _ _ _ _ _ _=>ie) (fun _ _ _ _ _ _=>(ay (af (pv 1)) (af (pv 0)))))))))))
theorem rD (F:Df K mg "check_most" eR ["most"]) (B:Bs mg) {dA:Addr} (eF:Cn mg "NOUGHT" (.ref dA)) (eG:(dA,[V.int (0),V.int (1)])∈b8) {fE:Addr} (ir:Cn mg "WHOLE" (.ref fE)) (iu:(fE,[V.int (1),V.int (1)])∈b8) (fi:Dn P w K mg base 1 "under" ["one","other"] (cS K 2 fh)):Dn P w K mg base 2 "check_most" ["most"] (cS K 1 fZ):=
 bG [] ik F rB fun f cR A outer s H E hr=>(ax (fJ (PW.pt (j8 (cN (PE.sh (aB fi hr (by decide) (ab (ao (pv 0)) (ab (oD (j6 eF) eG (fun _=>(.cons (.int _) (.cons (.int _) .nil)))) aj))))) (pw_or1 (cN (PE.sh (aB fi hr (by decide) (ab (oD (j6 ir) iu (fun _=>(.cons (.int _) (.cons (.int _) .nil)))) (ab (ao (pv 0)) aj)))))))) (ax pR) da))
theorem wZ {c0 P0:Addr} (F:ND K mg "in_order" fB ["rule"] c0) (B:Bs mg) (HD:PySem.W.codeHdIn K c0 P0=true) (ML:(P0,(⟨145,28,145,65⟩:Pos),("in_order.<locals>.<lambda>":Str))∈b9) (BB:Gf mg base):Dn P w K mg base 4 "in_order" ["rule"] (oz K 1 fw):=
 v8 [] lX F wW fun f A outer s H E hr=>(ax (mT (v7 (kc:=0) (pn:="end") (fv:=[]) (ix:=[]) (aq fB) B.sorted (Bx (af (pv 0))) hr (by decide) BB HD ML ⟨rfl,rfl,rfl,by decide +kernel,by decide +kernel,by decide +kernel,by decide +kernel⟩ (fun base f c' cl A outer s H E hr=>(bz (ab (au ba aT (PE.sh (ay (af (pv 0)) (PE.sh (ag ah)))) (PE.sh (ay (af (pv 0)) (PE.sh (ag ah))))) (ab (ay (af (pv 0)) (PE.sh (ag ah))) aj)))) (fun _ _ _ _ _ _ us hl=>match us,hl with | [_],_=>rfl))))
theorem EL (F:Df K mg "taken" k0 ["choice","most"]) (B:Bs mg) {dA:Addr} (eF:Cn mg "NOUGHT" (.ref dA)) (eG:(dA,[V.int (0),V.int (1)])∈b8) (jH:Dn P w K mg base 4 "in_order" ["rule"] (oz K 1 fw)) (mf:Dn P w K mg base 4 "plus" ["one","other"] (cS K 2 jy)) (fi:Dn P w K mg base 1 "under" ["one","other"] (cS K 2 fh)):Dn P w K mg base 5 "taken" ["choice","most"] (cS K 2 kN):=
 bG [2] t9 F eh fun f cR A outer s H E hr=>(ar (gK (av (i:=2) eh.nd rfl (Or.inl rfl) (g5 aj)))
  (ar (aA (av (i:=3) eh.nd rfl (Or.inl rfl) (oD (j6 eF) eG (fun _=>(.cons (.int _) (.cons (.int _) .nil))))))
  (ar (aA (av (i:=4) eh.nd rfl (Or.inl rfl) (oD (j6 eF) eG (fun _=>(.cons (.int _) (.cons (.int _) .nil))))))
  (ar (de PassesOwn.never rfl (cc (ao (pv 0))) (iM rfl (cf (aG (aN (i:=5) eh.nd rfl (Or.inl rfl))) (cf (aG (aN (i:=6) eh.nd rfl (Or.inl rfl))) (cf (aG (aN (i:=7) eh.nd rfl (Or.inl rfl))) (cf (aG (aN (i:=8) eh.nd rfl (Or.inl rfl))) iL)))))
   (ar (aA (av (i:=9) eh.nd rfl (Or.inl rfl) (aB mf hr (by decide) (ab (ao (pv 3)) (ab (ao (pv 7)) aj)))))
  (ar (fJ (cN (PE.sh (aB fi hr (by decide) (ab (ao (pv 1)) (ab (ao (pv 9)) aj))))) (ax (be (bz (ab (PE.nE (lK jH hr (by decide) (aE (af (pv 2)) aO))) (ab (ao (pv 6)) (ab (ao (pv 3)) (ab (ao (pv 4)) aj))))))) da)
  (ar (gq (eJ (lr PySem.F.plainAttrs_list PySem.F.slot_list_append PySem.F.type_list_append gn (pv 2) (cn (ao (pv 5)) dz))))
  (ar (aA (av (i:=3) eh.nd rfl (Or.inl rfl) (ao (pv 9))))
  (ax (aA (av (i:=4) eh.nd rfl (Or.inl rfl) (aB mf hr (by decide) (ab (ao (pv 4)) (ab (ao (pv 8)) aj)))))))))))
  (ax (be (bz (ab (PE.nE (lK jH hr (by decide) (aE (af (pv 2)) aO))) (ab (oD (j6 eF) eG (fun _=>(.cons (.int _) (.cons (.int _) .nil)))) (ab (ao (pv 3)) (ab (ao (pv 4)) aj)))))))))))
theorem om (F:Df K mg "rule_by_ratio" cK ["plan","low","high","most"]) (B:Bs mg) (fF:Dn P w K mg base 4 "by_falling_ratio" ["choice"] (oz K 1 cG)) (jI:Dn P w K mg base 2 "check_most" ["most"] (cS K 1 fZ)) (dj:Dn P w K mg base 2 "check_shares" ["low","high"] (cS K 2 cF)) (za:Dn P w K mg base 3 "ends" ["plan"] (oz K 1 qp)) (iT:Dn P w K mg base 6 "often" ["count","share"] (cS K 2 ij)) (uG:Dn P w K mg base 7 "ratio" ["count","low","high"] (cS K 3 ng)) (uH:Dn P w K mg base 5 "taken" ["choice","most"] (cS K 2 kN)) (jG:Dn P w K mg base 4 "times" ["one","other"] (cS K 2 iP)) (ku:Dn P w K mg base 2 "ways_from" ["plan","beginning"] (cS K 2 fK)):Dn P w K mg base 8 "rule_by_ratio" ["plan","low","high","most"] (cS K 4 dJ):=
 bG [5] hJ F dh fun f cR A outer s H E hr=>let hu:=Nat.lt_of_le_of_lt (Nat.add_le_add_left (show 1<=64 by decide) _) hr.units
  (ar (sZ (eJ (aB dj hr (by decide) (ab (ao (pv 1)) (ab (ao (pv 2)) aj)))))
  (ar (sZ (eJ (aB jI hr (by decide) (ab (ao (pv 3)) aj))))
  (ar (aA (av (i:=4) dh.nd rfl (Or.inl rfl) (aB ku hr (by decide) (ab (ao (pv 0)) (ab (bz (ab (ag ah) (ab (ag ah) aj))) aj)))))
  (ar (gK (av (i:=5) dh.nd rfl (Or.inl rfl) (g5 aj)))
  (ar (de PassesOwn.never rfl (cc (PE.nE (gS za hr (by decide) (ab (ao (pv 0)) aj)))) (aG (aN (i:=6) dh.nd rfl (Or.inl rfl)))
   (ar (aA (av (i:=7) dh.nd rfl (Or.inl rfl) (bz (ab (tF hu (af (pv 4)) (af (pv 6))) (ab (ag ah) aj)))))
  (ax (gq (eJ (lr PySem.F.plainAttrs_list PySem.F.slot_list_append PySem.F.type_list_append gn (pv 5) (cn (bz (ab (ao (pv 6)) (ab (aB uG hr (by decide) (ab (ao (pv 6)) (ab (ao (pv 1)) (ab (ao (pv 2)) aj)))) (ab (aB jG hr (by decide) (ab (ao (pv 7)) (ab (aB iT hr (by decide) (ab (ao (pv 6)) (ab (ao (pv 1)) aj))) aj))) (ab (aB jG hr (by decide) (ab (ao (pv 7)) (ab (aB iT hr (by decide) (ab (ao (pv 6)) (ab (ao (pv 2)) aj))) aj))) aj))))) dz)))))))
  (ax (be (aB uH hr (by decide) (ab (PE.nE (lK fF hr (by decide) (aE (af (pv 5)) aO))) (ab (ao (pv 3)) aj))))))))))
theorem w4 (F:Df K mg "_law_cell" gH ["_law_script","_law_k"]) (B:Bs mg):Dn P w K mg base 1 "_law_cell" ["_law_script","_law_k"] (cS K 2 gA):=
 bG [] lY F wX fun f cR A outer s H E hr=>(ar (fJ (br oo c9 (af (pv 1)) (PE.sh (aZ bY c5 rfl B.len eZ (aE (af (pv 0)) aO))) (b0 _)) (ax (be (ay (af (pv 0)) (af (pv 1))))) da)
  (ax (be (ag ah))))
theorem rE (F:Df K mg "_law_digits" eS ["_law_cell_here","_law_base","_law_many"]) (B:Bs mg):Dn P w K mg base 1 "_law_digits" ["_law_cell_here","_law_base","_law_many"] (oz K 3 eO):=
 iN [3] jz F gO fun f cR A outer s H E hr=>(ar (gK (av (i:=3) gO.nd rfl (Or.inl rfl) (g5 aj)))
  (ar (de PassesOwn.never rfl (gu B.range (ab (ao (pv 2)) aj)) (aG (aN (i:=4) gO.nd rfl (Or.inl rfl)))
   (ar (gq (eJ (lr PySem.F.plainAttrs_list PySem.F.slot_list_append PySem.F.type_list_append gn (pv 3) (cn (au cH az (af (pv 0)) (af (pv 1))) dz))))
  (ax (aA (av (i:=0) gO.nd rfl (Or.inl rfl) (au bE az (af (pv 0)) (af (pv 1))))))))
  (ax (gp (pv 3)))))
theorem uI (F:Df K mg "_law_mixes" fN ["_law_cell_here","_law_base","_law_many"]) (B:Bs mg):Dn P w K mg base 1 "_law_mixes" ["_law_cell_here","_law_base","_law_many"] (oz K 3 gZ):=
 iN [3] ki F ip fun f cR A outer s H E hr=>(ar (gK (av (i:=3) ip.nd rfl (Or.inl rfl) (g5 aj)))
  (ar (de PassesOwn.never rfl (gu B.range (ab (ao (pv 2)) aj)) (aG (aN (i:=4) ip.nd rfl (Or.inl rfl)))
   (ar (aA (av (i:=5) ip.nd rfl (Or.inl rfl) (au cH az (PE.sh (au ba aT (PE.sh (au ba aT (PE.sh (au aU az (PE.sh (au cH az (af (pv 0)) (PE.sh (ag ah)))) (PE.sh (ag ah)))) (PE.sh (au aU az (PE.sh (au aU az (af (pv 4)) (af (pv 4)))) (PE.sh (ag ah)))))) (PE.sh (au aU az (af (pv 4)) (PE.sh (ag ah)))))) (PE.sh (ag ah)))))
  (ax (gq (eJ (lr PySem.F.plainAttrs_list PySem.F.slot_list_append PySem.F.type_list_append gn (pv 3) (cn (au cH az (PE.sh (au bE az (PE.sh (au cH az (PE.sh (au ba aT (PE.sh (au aU az (af (pv 5)) (PE.sh (ag ah)))) (af (pv 0)))) (PE.sh (ag ah)))) (PE.sh (ag ah)))) (af (pv 1))) dz)))))))
  (ax (gp (pv 3)))))
theorem w5 (F:Df K mg "_law_plan" eA ["_law_cell_here","_law_most_here"]) (B:Bs mg) (jJ:Dn P w K mg base 1 "_law_digits" ["_law_cell_here","_law_base","_law_many"] (oz K 3 eO)) (kx:Dn P w K mg base 1 "_law_mixes" ["_law_cell_here","_law_base","_law_many"] (oz K 3 gZ)):Dn P w K mg base 2 "_law_plan" ["_law_cell_here","_law_most_here"] (cS K 2 iG):=
 bG [5] lZ F bZ fun f cR A outer s H E hr=>(ar (aA (av (i:=2) bZ.nd rfl (Or.inl rfl) (au bE az (af (pv 0)) (PE.sh (ag ah)))))
  (ar (aA (av (i:=3) bZ.nd rfl (Or.inr rfl) (au ba aT (PE.sh (ag ah)) (PE.sh (au aU az (PE.sh (ag ah)) (PE.sh (nJ AI FV rfl B.int Cu (aE (PE.sh (pM oq c9 (af (pv 1)) (PE.sh (ag ah)) (b0 _))) aO))))))))
  (ar (aA (av (i:=4) bZ.nd rfl (Or.inr rfl) (PE.nE (gS kx hr (by decide) (ab (ao (pv 2)) (ab (ag ah) (ab (ao (pv 3)) aj)))))))
  (ar (fJ (br Mt c9 (PE.sh (aZ i9 kD rfl B.abs nF (aE (af (pv 0)) aO))) (PE.sh (au xB az (PE.sh (ag ah)) (PE.sh (ag ah)))) (b0 _)) (ax (aA (av (i:=4) bZ.nd rfl (Or.inr rfl) (PE.nE (gS jJ hr (by decide) (ab (ao (pv 2)) (ab (ag ah) (ab (ao (pv 3)) aj)))))))) da)
  (ar (gK (av (i:=5) bZ.nd rfl (Or.inl rfl) (g5 (ab (bz (ab (ag ah) aj)) aj))))
  (ar (aA (av (i:=6) bZ.nd rfl (Or.inl rfl) (PE.nE (g5 (ab (ag ah) (ab (ag ah) aj))))))
  (ar (aA (av (i:=7) bZ.nd rfl (Or.inr rfl) (ag ah)))
  (ar (mU PassesOwn.never (PW.pt (kC (br oo c9 (PE.sh (aZ bY c5 rfl B.len eZ (aE (af (pv 5)) aO))) (af (pv 1)) (b0 _)) (pw_and1 (br oq c9 (PE.sh (aZ bY c5 rfl B.len eZ (aE (af (pv 6)) aO))) (PE.sh (ag ah)) (b0 _))))) (ar (aA (PS.nE (vM (i:=8) (aq eA) ["_law_cell_here","_law_most_here","_law_rest","_law_many","_law_digits_here","_law_rows","_law_come","_law_at","_law_row"] [4,3,7] ["_law_k","_law_bad","_law_digits_here","_law_many","_law_at"] ["_law_k","_law_bad"] bZ.nd rfl rfl Nn (PI.c (tj B.enumerate (ao (pv 6)))) (fun _ _ _ _ _ _=>(iM rfl (cf (aG (aN (i:=0) (show (["_law_k","_law_bad","_law_digits_here","_law_many","_law_at"]:List Str).Nodup from by decide +kernel) rfl (Or.inl rfl))) (cf (aG (aN (i:=1) (show (["_law_k","_law_bad","_law_digits_here","_law_many","_law_at"]:List Str).Nodup from by decide +kernel) rfl (Or.inl rfl))) iL)))) (fun _ _ _ _ _ _=>(nP (br oq c9 (PE.sh (ay (af (pv 2)) (PE.sh (au cH az (PE.sh (au ba aT (af (pv 4)) (af (pv 0)))) (af (pv 3)))))) (PE.sh (ag ah)) (b0 _)))) (fun _ _ _ _ _ _=>(ao (pv 1))))))
  (ar (aA (av (i:=7) bZ.nd rfl (Or.inr rfl) (au ba aT (af (pv 7)) (PE.sh (aZ bY c5 rfl B.len eZ (aE (af (pv 6)) aO))))))
  (ar (fJ (br oq c9 (PE.sh (au cH az (af (pv 0)) (PE.sh (ag ah)))) (PE.sh (ag ah)) (b0 _)) (ax (aA (av (i:=8) bZ.nd rfl (Or.inl rfl) (PE.nE (JT (af (pv 6)) (vA (PE.sh (ay (af (pv 4)) (PE.sh (au cH az (af (pv 7)) (af (pv 3))))))) (vA (PE.sh (aZ (rP rfl) zJ rfl B.max Cv (aE (PE.sh (ag ah)) (aE (PE.sh (au c7 fH (PE.sh (aZ bY c5 rfl B.len eZ (aE (af (pv 6)) aO))) (PE.sh (ay (af (pv 4)) (PE.sh (au cH az (PE.sh (au ba aT (af (pv 7)) (PE.sh (ag ah)))) (af (pv 3)))))))) aO)))))))))) da)
  (ar (aA (av (i:=6) bZ.nd rfl (Or.inl rfl) (PE.nE (lO B.sorted B.set (PE.sh (PE.nE (sV mO mP (af (pv 8)) (PE.sh (PE.nE (PE.Gd (d7 (aq eA) ["_law_cell_here","_law_most_here","_law_rest","_law_many","_law_digits_here","_law_rows","_law_come","_law_at","_law_row"] [] ["_law_bad"] ["_law_bad"] lR (PI.c (cc (ao (pv 8)))) (fun _ _ _ _ _ _=>(aG (aN (i:=0) (show (["_law_bad"]:List Str).Nodup from by decide +kernel) rfl (Or.inl rfl)))) (fun _ _ _ _ _ _=>ie) (fun _ _ _ _ _ _=>(au ba aT (af (pv 0)) (PE.sh (ag ah)))))))))))))))
  (ax (fJ (br oq c9 (PE.sh (aZ bY c5 rfl B.len eZ (aE (af (pv 8)) aO))) (PE.sh (ag ah)) (b0 _)) (ax (gq (eJ (lr PySem.F.plainAttrs_list PySem.F.slot_list_append PySem.F.type_list_append gn (pv 5) (cn (nJ lq r6 rfl B.tuple pI (aE (af (pv 8)) aO)) dz))))) da)))))))
  (ax (be (nJ lq r6 rfl B.tuple pI (aE (af (pv 5)) aO))))))))))))
theorem w6 (F:Df K mg "_law_ends" eB ["_law_plan_here"]) (B:Bs mg):Dn P w K mg base 1 "_law_ends" ["_law_plan_here"] (oz K 1 gD):=
 iN [1] l5 F fO fun f cR A outer s H E hr=>(ar (gK (av (i:=1) fO.nd rfl (Or.inl rfl) (g5 aj)))
  (ar (de PassesOwn.never rfl (A1 B.range (ab (ag ah) (ab (au ba aT (PE.sh (aZ bY c5 rfl B.len eZ (aE (af (pv 0)) aO))) (PE.sh (ag ah))) aj))) (aG (aN (i:=2) fO.nd rfl (Or.inr rfl)))
   (ar (aA (av (i:=3) fO.nd rfl (Or.inr rfl) (bz aj)))
  (ar (fJ (br oo c9 (af (pv 2)) (PE.sh (aZ bY c5 rfl B.len eZ (aE (af (pv 0)) aO))) (b0 _)) (ax (aA (av (i:=3) fO.nd rfl (Or.inr rfl) (ay (af (pv 0)) (af (pv 2)))))) da)
  (ar (aA (av (i:=4) fO.nd rfl (Or.inl rfl) (PE.nE (lO B.sorted B.set (PE.sh (PE.nE (sV mO mP (PE.sh (PE.nE (pP mI vz rfl B.list zz (aE (PE.sh (ay (af (pv 0)) (PE.sh (au c7 fH (af (pv 2)) (PE.sh (ag ah)))))) aO)))) (PE.sh (PE.nE (PE.Gd (d7 (aq eB) ["_law_plan_here","_law_found","_law_n","_law_on","_law_come"] [] ["_law_bad"] ["_law_bad"] lR (PI.c (cc (ay (af (pv 0)) (PE.sh (au c7 fH (af (pv 2)) (PE.sh (ag ah))))))) (fun _ _ _ _ _ _=>(aG (aN (i:=0) (show (["_law_bad"]:List Str).Nodup from by decide +kernel) rfl (Or.inl rfl)))) (fun _ _ _ _ _ _=>ie) (fun _ _ _ _ _ _=>(au ba aT (af (pv 0)) (PE.sh (ag ah)))))))))))))))
  (ax (nL (eJ (lr PySem.F.plainAttrs_list PySem.F.slot_list_extend PySem.F.type_list_extend nA (pv 1) (cn (d7 (aq eB) ["_law_plan_here","_law_found","_law_n","_law_on","_law_come"] [2,3] ["_law_bad","_law_n","_law_on"] ["_law_bad"] lR (PI.c (cc (ao (pv 4)))) (fun _ _ _ _ _ _=>(aG (aN (i:=0) (show (["_law_bad","_law_n","_law_on"]:List Str).Nodup from by decide +kernel) rfl (Or.inl rfl)))) (fun _ _ _ _ _ _=>(nP (br A3 A4 (af (pv 0)) (af (pv 2)) (by with_unfolding_all rfl)))) (fun _ _ _ _ _ _=>(bz (ab (ao (pv 0)) (ab (au c7 fH (af (pv 1)) (af (pv 0))) aj))))) dz)))))))))
  (ax (gp (pv 1)))))
theorem w8 (F:Df K mg "_law_ways" gI ["_law_plan_here"]) (B:Bs mg):Dn P w K mg base 1 "_law_ways" ["_law_plan_here"] (cS K 1 gF):=
 bG [1] l6 F eD fun f cR A outer s H E hr=>let hu:=Nat.lt_of_le_of_lt (Nat.add_le_add_left (show 1<=64 by decide) _) hr.units
  (ar (zR (av (i:=1) eD.nd rfl (Or.inl rfl) (vO hu (PE.sh (bz (ab (ag ah) (ab (ag ah) aj)))) (ag ah))))
  (ar (de PassesOwn.never rfl (vN B.enumerate (ao (pv 0))) (iM rfl (cf (aG (aN (i:=2) eD.nd rfl (Or.inl rfl))) (cf (aG (aN (i:=3) eD.nd rfl (Or.inl rfl))) iL)))
   (ax (de PassesOwn.never rfl (cc (ao (pv 3))) (aG (aN (i:=4) eD.nd rfl (Or.inl rfl)))
   (ar (aA (av (i:=5) eD.nd rfl (Or.inl rfl) (tF hu (af (pv 1)) (PE.sh (bz (ab (ao (pv 4)) (ab (au c7 fH (af (pv 2)) (af (pv 4))) aj)))))))
  (ax (de PassesOwn.never rfl (cc (bz (ab (bz (ab (au ba aT (af (pv 4)) (PE.sh (ag ah))) (ab (au c7 fH (af (pv 2)) (af (pv 4))) aj))) (ab (bz (ab (ao (pv 4)) (ab (au ba aT (PE.sh (au c7 fH (af (pv 2)) (af (pv 4)))) (PE.sh (ag ah))) aj))) aj)))) (aG (aN (i:=6) eD.nd rfl (Or.inl rfl)))
   (ax (zQ (zw hu (pv 1) (af (pv 6)) (au ba aT (PE.sh (p6 hu (af (pv 1)) (af (pv 6)) (ag ah))) (af (pv 5))) (by rfl))))))))))
  (ax (gp (pv 1)))))
theorem uJ (F:Df K mg "_law_whole" fP ["_law_found"]) (B:Bs mg):Dn P w K mg base 1 "_law_whole" ["_law_found"] (cS K 1 fL):=
 bG [] kj F uC fun f cR A outer s H E hr=>(ax (be (xN (xQ "int" B.isinstance (af (pv 0)) (sL rfl B.int Cu (v:=.ty "int") rfl)) (xr (JP (PE.sh (xQ "bool" B.isinstance (af (pv 0)) (sL rfl B.bool FI (v:=.ty "bool") rfl))))))))
theorem qI (F:Df K mg "_law_divisor" dN ["_law_one","_law_other"]) (B:Bs mg):Dn P w K mg base 1 "_law_divisor" ["_law_one","_law_other"] (cS K 2 cU):=
 bG [] iZ F kq fun f cR A outer s H E hr=>(ar (mU PassesOwn.never (br (nH hr) nI (af (pv 1)) (PE.sh (ag ah)) (b0 _)) (ax (JX (Jc (i:=0) (j:=1) rfl kq.nd rfl rfl (by decide) rfl rfl (ab (ao (pv 1)) (ab (au cH az (af (pv 0)) (af (pv 1))) aj)) rfl))))
  (ax (be (aZ i9 kD rfl B.abs nF (aE (af (pv 0)) aO)))))
theorem qJ (F:Df K mg "_law_is_frac" dO ["_law_found","_law_top","_law_bottom"]) (B:Bs mg) (dS:Dn P w K mg base 1 "_law_divisor" ["_law_one","_law_other"] (cS K 2 cU)) (iU:Dn P w K mg base 1 "_law_whole" ["_law_found"] (cS K 1 fL)):Dn P w K mg base 2 "_law_is_frac" ["_law_found","_law_top","_law_bottom"] (cS K 3 cV):=
 bG [] i4 F qE fun f cR A outer s H E hr=>(ar (fJ (PW.pt (j8 (ib (cN (PE.sh (xQ "tuple" B.isinstance (af (pv 0)) (sL rfl B.tuple pI (v:=.ty "tuple") rfl))))) (j8 (br (nH hr) nI (PE.sh (aZ bY c5 rfl B.len eZ (aE (af (pv 0)) aO))) (PE.sh (ag ah)) (b0 _)) (j8 (ib (cN (PE.sh (aB iU hr (by decide) (ab (ay (af (pv 0)) (PE.sh (ag ah))) aj))))) (pw_or1 (ib (cN (PE.sh (aB iU hr (by decide) (ab (ay (af (pv 0)) (PE.sh (ag ah))) aj)))))))))) (ax (be (ls ll))) da)
  (ar (fJ (PW.pt (j8 (br oo c9 (PE.sh (ay (af (pv 0)) (PE.sh (ag ah)))) (PE.sh (ag ah)) (b0 _)) (pw_or1 (br (nH hr) nI (PE.sh (aB dS hr (by decide) (ab (ay (af (pv 0)) (PE.sh (ag ah))) (ab (ay (af (pv 0)) (PE.sh (ag ah))) aj)))) (PE.sh (ag ah)) (b0 _))))) (ax (be (ls ll))) da)
  (ax (be (pM (sW hr) imp_eq (PE.sh (au aU az (PE.sh (ay (af (pv 0)) (PE.sh (ag ah)))) (af (pv 2)))) (PE.sh (au aU az (af (pv 1)) (PE.sh (ay (af (pv 0)) (PE.sh (ag ah)))))) (b0 _))))))
theorem rF (F:Df K mg "_law_shares" eU ["_law_cell_here"]) (B:Bs mg):Dn P w K mg base 1 "_law_shares" ["_law_cell_here"] (cS K 1 eP):=
 bG [] jA F cW fun f cR A outer s H E hr=>(ar (aA (av (i:=1) cW.nd rfl (Or.inl rfl) (au ba aT (PE.sh (ag ah)) (PE.sh (au cH az (PE.sh (au bE az (af (pv 0)) (PE.sh (ag ah)))) (PE.sh (ag ah)))))))
  (ar (aA (av (i:=2) cW.nd rfl (Or.inl rfl) (au bE az (af (pv 0)) (PE.sh (ag ah)))))
  (ar (fJ (br (sW hr) imp_eq (PE.sh (au cH az (af (pv 0)) (PE.sh (ag ah)))) (PE.sh (ag ah)) (b0 _)) (ar (aA (av (i:=1) cW.nd rfl (Or.inl rfl) (au ba aT (PE.sh (ag ah)) (PE.sh (au cH az (PE.sh (au bE az (af (pv 0)) (PE.sh (ag ah)))) (PE.sh (au xB az (PE.sh (ag ah)) (PE.sh (ag ah)))))))))
  (ax (aA (av (i:=2) cW.nd rfl (Or.inl rfl) (au ba aT (PE.sh (au bE az (PE.sh (au bE az (af (pv 0)) (PE.sh (ag ah)))) (PE.sh (au xB az (PE.sh (ag ah)) (PE.sh (ag ah)))))) (PE.sh (au bE az (af (pv 0)) (PE.sh (ag ah))))))))) da)
  (ar (aA (av (i:=3) cW.nd rfl (Or.inl rfl) (au ba aT (PE.sh (ag ah)) (PE.sh (au cH az (af (pv 2)) (PE.sh (au c7 fH (af (pv 1)) (PE.sh (ag ah)))))))))
  (ar (aA (av (i:=4) cW.nd rfl (Or.inl rfl) (au ba aT (PE.sh (au ba aT (af (pv 3)) (PE.sh (ag ah)))) (PE.sh (au cH az (PE.sh (au bE az (af (pv 2)) (PE.sh (au c7 fH (af (pv 1)) (PE.sh (ag ah)))))) (PE.sh (au c7 fH (PE.sh (au c7 fH (af (pv 1)) (PE.sh (ag ah)))) (af (pv 3)))))))))
  (ax (be (bz (ab (ao (pv 3)) (ab (ao (pv 4)) (ab (ao (pv 1)) aj)))))))))))
theorem w9 (F:Df K mg "_law_made" gJ ["_law_top","_law_bottom"]) (B:Bs mg) (dS:Dn P w K mg base 1 "_law_divisor" ["_law_one","_law_other"] (cS K 2 cU)):Dn P w K mg base 2 "_law_made" ["_law_top","_law_bottom"] (cS K 2 d9):=
 bG [] l7 F oJ fun f cR A outer s H E hr=>(ar (aA (av (i:=2) oJ.nd rfl (Or.inl rfl) (aB dS hr (by decide) (ab (ao (pv 0)) (ab (ao (pv 1)) aj)))))
  (ax (be (bz (ab (au bE az (af (pv 0)) (af (pv 2))) (ab (au bE az (af (pv 1)) (af (pv 2))) aj))))))
theorem uK (F:Df K mg "_law_times" fQ ["_law_base","_law_many"]) (B:Bs mg):Dn P w K mg base 1 "_law_times" ["_law_base","_law_many"] (cS K 2 cO):=
 bG [] kl F iq fun f cR A outer s H E hr=>(ar (aA (av (i:=2) iq.nd rfl (Or.inl rfl) (ag ah)))
  (ar (de PassesOwn.never rfl (gu B.range (ab (ao (pv 1)) aj)) (aG (aN (i:=3) iq.nd rfl (Or.inl rfl)))
   (ax (aA (av (i:=2) iq.nd rfl (Or.inl rfl) (au aU az (af (pv 2)) (af (pv 0)))))))
  (ax (be (ao (pv 2))))))
theorem rG (F:Df K mg "_law_weight" eV ["_law_count","_law_top","_law_bottom"]) (B:Bs mg) (du:Dn P w K mg base 1 "_law_times" ["_law_base","_law_many"] (cS K 2 cO)):Dn P w K mg base 2 "_law_weight" ["_law_count","_law_top","_law_bottom"] (cS K 3 cA):=
 bG [] jB F rC fun f cR A outer s H E hr=>(ax (be (au aU az (PE.sh (aB du hr (by decide) (ab (ao (pv 1)) (ab (ay (af (pv 0)) (PE.sh (ag ah))) aj)))) (PE.sh (aB du hr (by decide) (ab (au c7 fH (af (pv 2)) (af (pv 1))) (ab (ay (af (pv 0)) (PE.sh (ag ah))) aj)))))))
theorem qK (F:Df K mg "_law_heights" dQ ["_law_found","_law_places","_law_both"]) (B:Bs mg) (cQ:Dn P w K mg base 2 "_law_weight" ["_law_count","_law_top","_law_bottom"] (cS K 3 cA)):Dn P w K mg base 3 "_law_heights" ["_law_found","_law_places","_law_both"] (cS K 3 ff):=
 bG [] i5 F gg fun f cR A outer s H E hr=>(ar (de PassesOwn.never rfl (cc (ao (pv 1))) (aG (aN (i:=3) gg.nd rfl (Or.inl rfl)))
   (ar (aA (av (i:=4) gg.nd rfl (Or.inl rfl) (au aU az (PE.sh (aB cQ hr (by decide) (ab (ao (pv 3)) (ab (ay (af (pv 2)) (PE.sh (ag ah))) (ab (ay (af (pv 2)) (PE.sh (ag ah))) aj))))) (PE.sh (ay (PE.sh (ay (af (pv 0)) (PE.sh (ag ah)))) (PE.sh (ag ah)))))))
  (ar (aA (av (i:=5) gg.nd rfl (Or.inl rfl) (au aU az (PE.sh (aB cQ hr (by decide) (ab (ao (pv 3)) (ab (ay (af (pv 2)) (PE.sh (ag ah))) (ab (ay (af (pv 2)) (PE.sh (ag ah))) aj))))) (PE.sh (ay (PE.sh (ay (af (pv 0)) (PE.sh (ag ah)))) (PE.sh (ag ah)))))))
  (ax (fJ (PW.pt (j8 (PW.pt (kC (br (tJ hr) mX (af (pv 3)) (PE.sh (ay (af (pv 0)) (PE.sh (ag ah)))) (by with_unfolding_all rfl)) (pw_and1 (br oo c9 (af (pv 4)) (af (pv 5)) (b0 _))))) (pw_or1 (PW.pt (kC (br (Bo hr) mX (af (pv 3)) (PE.sh (ay (af (pv 0)) (PE.sh (ag ah)))) (by with_unfolding_all rfl)) (pw_and1 (br oq c9 (af (pv 4)) (af (pv 5)) (b0 _)))))))) (ax (be (ls ll))) da)))))
  (ax (be (ls ll))))
theorem xa (F:Df K mg "_law_best" fD ["_law_lows","_law_highs","_law_wrong","_law_caught"]) (B:Bs mg):Dn P w K mg base 1 "_law_best" ["_law_lows","_law_highs","_law_wrong","_law_caught"] (cS K 4 iH):=
 bG [] l8 F eE fun f cR A outer s H E hr=>(ar (aA (av (i:=4) eE.nd rfl (Or.inl rfl) (PE.nE (g5 (ab (bz (ab (ag ah) (ab (ag ah) aj))) aj)))))
  (ar (de PassesOwn.never rfl (Ku B.zip (ao (pv 0)) (ao (pv 1))) (iM rfl (cf (aG (aN (i:=5) eE.nd rfl (Or.inr rfl))) (cf (aG (aN (i:=6) eE.nd rfl (Or.inr rfl))) iL)))
   (ax (aA (av (i:=4) eE.nd rfl (Or.inl rfl) (PE.nE (sV mO mP (af (pv 4)) (PE.sh (PE.nE (d7 (aq fD) ["_law_lows","_law_highs","_law_wrong","_law_caught","_law_sums","_law_low","_law_high","_law_one","_law_other"] [5,6] ["_law_one","_law_other","_law_low","_law_high"] ["_law_one","_law_other"] Nn (PI.c (cc (ao (pv 4)))) (fun _ _ _ _ _ _=>(iM rfl (cf (aG (aN (i:=0) (show (["_law_one","_law_other","_law_low","_law_high"]:List Str).Nodup from by decide +kernel) rfl (Or.inl rfl))) (cf (aG (aN (i:=1) (show (["_law_one","_law_other","_law_low","_law_high"]:List Str).Nodup from by decide +kernel) rfl (Or.inl rfl))) iL)))) (fun _ _ _ _ _ _=>ie) (fun _ _ _ _ _ _=>(bz (ab (au ba aT (af (pv 0)) (af (pv 2))) (ab (au ba aT (af (pv 1)) (af (pv 3))) aj)))))))))))))
  (ar (de PassesOwn.never rfl (cc (ao (pv 4))) (iM rfl (cf (aG (aN (i:=7) eE.nd rfl (Or.inl rfl))) (cf (aG (aN (i:=8) eE.nd rfl (Or.inl rfl))) iL)))
   (ax (fJ (PW.pt (kC (br B6 c9 (af (pv 7)) (af (pv 2)) (b0 _)) (pw_and1 (br oq c9 (af (pv 8)) (af (pv 3)) (b0 _))))) (ax (be (ls ll))) da)))
  (ax (be (ls ll))))))
theorem uL (F:Df K mg "_law_asked" cP ["_law_plan_here","_law_both","_law_most_here"]) (B:Bs mg) (mn:Dn P w K mg base 1 "_law_best" ["_law_lows","_law_highs","_law_wrong","_law_caught"] (cS K 4 iH)) (mo:Dn P w K mg base 1 "_law_ends" ["_law_plan_here"] (oz K 1 gD)) (i7:Dn P w K mg base 3 "_law_heights" ["_law_found","_law_places","_law_both"] (cS K 3 ff)) (gP:Dn P w K mg base 2 "_law_is_frac" ["_law_found","_law_top","_law_bottom"] (cS K 3 cV)) (fG:Dn P w K mg base 2 "_law_made" ["_law_top","_law_bottom"] (cS K 2 d9)) (du:Dn P w K mg base 1 "_law_times" ["_law_base","_law_many"] (cS K 2 cO)) (mq:Dn P w K mg base 1 "_law_ways" ["_law_plan_here"] (cS K 1 gF)) (cQ:Dn P w K mg base 2 "_law_weight" ["_law_count","_law_top","_law_bottom"] (cS K 3 cA)) (hX:Dn P w K mg base 8 "rule_by_ratio" ["plan","low","high","most"] (cS K 4 dJ)):Dn P w K mg base 9 "_law_asked" ["_law_plan_here","_law_both","_law_most_here"] (cS K 3 g0):=
 bG [6,7] km F bX fun f cR A outer s H E hr=>let hu:=Nat.lt_of_le_of_lt (Nat.add_le_add_left (show 1<=64 by decide) _) hr.units
  (ar (aA (av (i:=3) bX.nd rfl (Or.inl rfl) (aB mq hr (by decide) (ab (ao (pv 0)) aj))))
  (ar (aA (av (i:=4) bX.nd rfl (Or.inr rfl) (PE.nE (gS mo hr (by decide) (ab (ao (pv 0)) aj)))))
  (ar (aA (av (i:=5) bX.nd rfl (Or.inl rfl) (aB du hr (by decide) (ab (ay (af (pv 1)) (PE.sh (ag ah))) (ab (aZ bY c5 rfl B.len eZ (aE (af (pv 0)) aO)) aj)))))
  (ar (gK (av (i:=6) bX.nd rfl (Or.inr rfl) (g5 aj)))
  (ar (gK (av (i:=7) bX.nd rfl (Or.inr rfl) (g5 aj)))
  (ar (de PassesOwn.never rfl (cc (ao (pv 4))) (aG (aN (i:=8) bX.nd rfl (Or.inl rfl)))
   (ar (aA (av (i:=9) bX.nd rfl (Or.inl rfl) (au aU az (PE.sh (tF hu (af (pv 3)) (af (pv 8)))) (PE.sh (aB du hr (by decide) (ab (ay (af (pv 1)) (PE.sh (ag ah))) (ab (au c7 fH (PE.sh (au c7 fH (PE.sh (aZ bY c5 rfl B.len eZ (aE (af (pv 0)) aO))) (PE.sh (ay (af (pv 8)) (PE.sh (ag ah)))))) (PE.sh (ay (af (pv 8)) (PE.sh (ag ah))))) aj)))))))
  (ar (gq (eJ (lr PySem.F.plainAttrs_list PySem.F.slot_list_append PySem.F.type_list_append gn (pv 6) (cn (au aU az (af (pv 9)) (PE.sh (aB cQ hr (by decide) (ab (ao (pv 8)) (ab (ay (af (pv 1)) (PE.sh (ag ah))) (ab (ay (af (pv 1)) (PE.sh (ag ah))) aj)))))) dz))))
  (ax (gq (eJ (lr PySem.F.plainAttrs_list PySem.F.slot_list_append PySem.F.type_list_append gn (pv 7) (cn (au aU az (af (pv 9)) (PE.sh (aB cQ hr (by decide) (ab (ao (pv 8)) (ab (ay (af (pv 1)) (PE.sh (ag ah))) (ab (ay (af (pv 1)) (PE.sh (ag ah))) aj)))))) dz))))))))
  (ar (aA (av (i:=10) bX.nd rfl (Or.inr rfl) (aB hX hr (by decide) (ab (ao (pv 0)) (ab (aB fG hr (by decide) (ab (ay (af (pv 1)) (PE.sh (ag ah))) (ab (ay (af (pv 1)) (PE.sh (ag ah))) aj))) (ab (aB fG hr (by decide) (ab (ay (af (pv 1)) (PE.sh (ag ah))) (ab (ay (af (pv 1)) (PE.sh (ag ah))) aj))) (ab (ao (pv 2)) aj)))))))
  (ar (fJ (PW.pt (j8 (br (nH hr) nI (PE.sh (PE.nE (d7 (aq cP) ["_law_plan_here","_law_both","_law_most_here","_law_ways_here","_law_places","_law_unit","_law_lows","_law_highs","_law_end","_law_fill","_law_found","_law_wrong","_law_caught"] [10] ["_law_end","_law_found"] ["_law_end"] lR (PI.c (cc (ao (pv 4)))) (fun _ _ _ _ _ _=>(aG (aN (i:=0) (show (["_law_end","_law_found"]:List Str).Nodup from by decide +kernel) rfl (Or.inl rfl)))) (fun _ _ _ _ _ _=>(nP (br (tJ hr) mX (af (pv 0)) (PE.sh (ay (af (pv 1)) (PE.sh (ag ah)))) (by with_unfolding_all rfl)))) (fun _ _ _ _ _ _=>(ao (pv 0)))))) (PE.sh (ay (af (pv 10)) (PE.sh (ag ah)))) (b0 _)) (pw_or1 (ib (cN (PE.sh (aB i7 hr (by decide) (ab (ao (pv 10)) (ab (ao (pv 4)) (ab (ao (pv 1)) aj)))))))))) (ax (be (ls ll))) da)
  (ar (aA (av (i:=11) bX.nd rfl (Or.inl rfl) (aZ (sv rfl) zV rfl B.sum Dq (aE (PE.sh (PE.nE (vR [1] (aq cP) ["_law_plan_here","_law_both","_law_most_here","_law_ways_here","_law_places","_law_unit","_law_lows","_law_highs","_law_end","_law_fill","_law_found","_law_wrong","_law_caught"] [6,4,10] ["_law_k","_law_lows","_law_places","_law_found"] ["_law_k"] lR (PI.c (gu B.range (ab (aZ bY c5 rfl B.len eZ (aE (af (pv 4)) aO)) aj))) (fun _ _ _ _ _ _=>(aG (aN (i:=0) (show (["_law_k","_law_lows","_law_places","_law_found"]:List Str).Nodup from by decide +kernel) rfl (Or.inl rfl)))) (fun _ _ _ _ _ _=>(nP (br (tJ hr) mX (PE.sh (ay (af (pv 2)) (af (pv 0)))) (PE.sh (ay (af (pv 3)) (PE.sh (ag ah)))) (by with_unfolding_all rfl)))) (fun _ _ _ _ _ _=>(ay (af (pv 1)) (af (pv 0))))))) aO))))
  (ar (aA (av (i:=12) bX.nd rfl (Or.inl rfl) (aZ (sv rfl) zV rfl B.sum Dq (aE (PE.sh (PE.nE (vR [1] (aq cP) ["_law_plan_here","_law_both","_law_most_here","_law_ways_here","_law_places","_law_unit","_law_lows","_law_highs","_law_end","_law_fill","_law_found","_law_wrong","_law_caught"] [7,4,10] ["_law_k","_law_highs","_law_places","_law_found"] ["_law_k"] lR (PI.c (gu B.range (ab (aZ bY c5 rfl B.len eZ (aE (af (pv 4)) aO)) aj))) (fun _ _ _ _ _ _=>(aG (aN (i:=0) (show (["_law_k","_law_highs","_law_places","_law_found"]:List Str).Nodup from by decide +kernel) rfl (Or.inl rfl)))) (fun _ _ _ _ _ _=>(nP (br (tJ hr) mX (PE.sh (ay (af (pv 2)) (af (pv 0)))) (PE.sh (ay (af (pv 3)) (PE.sh (ag ah)))) (by with_unfolding_all rfl)))) (fun _ _ _ _ _ _=>(ay (af (pv 1)) (af (pv 0))))))) aO))))
  (ar (fJ (PW.pt (j8 (ib (cN (PE.sh (aB gP hr (by decide) (ab (ay (af (pv 10)) (PE.sh (ag ah))) (ab (ao (pv 11)) (ab (ao (pv 5)) aj))))))) (pw_or1 (ib (cN (PE.sh (aB gP hr (by decide) (ab (ay (af (pv 10)) (PE.sh (ag ah))) (ab (ao (pv 12)) (ab (ao (pv 5)) aj)))))))))) (ax (be (ls ll))) da)
  (ax (be (xN (pM B6 c9 (PE.sh (au aU az (af (pv 11)) (PE.sh (ay (af (pv 2)) (PE.sh (ag ah)))))) (PE.sh (au aU az (PE.sh (ay (af (pv 2)) (PE.sh (ag ah)))) (af (pv 5)))) (b0 _)) (xr (AX mn hr (by decide) (aE (af (pv 6)) (aE (af (pv 7)) (aE (af (pv 11)) (aE (af (pv 12)) aO))))))))))))))))))))
theorem Lu {f:Addr} {fd:FuncData} (F:Ck K "law" "law" lB f fd) (B:Bs mg) (ky:Dn P w K mg base 9 "_law_asked" ["_law_plan_here","_law_both","_law_most_here"] (cS K 3 g0)) (jK:Dn P w K mg base 1 "_law_cell" ["_law_script","_law_k"] (cS K 2 gA)) (fG:Dn P w K mg base 2 "_law_made" ["_law_top","_law_bottom"] (cS K 2 d9)) (mr:Dn P w K mg base 2 "_law_plan" ["_law_cell_here","_law_most_here"] (cS K 2 iG)) (jL:Dn P w K mg base 1 "_law_shares" ["_law_cell_here"] (cS K 1 eP)):lF P w K mg base oX 10 f fd ["_law_script"] (cS K 1 sE):=
 M0 [] DR F qF fun f cR A outer s H E hr=>(ar (de PassesOwn.never rfl (gu B.range (ab (aZ (rP rfl) zJ rfl B.max Cv (aE (PE.sh (ag ah)) (aE (PE.sh (aZ (AH rfl) FU rfl B.min JK (aE (PE.sh (ag ah)) (aE (PE.sh (aZ bY c5 rfl B.len eZ (aE (af (pv 0)) aO))) aO)))) aO))) aj)) (aG (aN (i:=1) qF.nd rfl (Or.inl rfl)))
   (ar (aA (av (i:=2) qF.nd rfl (Or.inl rfl) (aB jK hr (by decide) (ab (ao (pv 0)) (ab (ao (pv 1)) aj)))))
  (ar (aA (av (i:=3) qF.nd rfl (Or.inl rfl) (aB jK hr (by decide) (ab (ao (pv 0)) (ab (au ba aT (af (pv 1)) (PE.sh (ag ah))) aj)))))
  (ar (aA (av (i:=4) qF.nd rfl (Or.inl rfl) (aB mr hr (by decide) (ab (au bE az (af (pv 2)) (PE.sh (ag ah))) (ab (au ba aT (PE.sh (ag ah)) (PE.sh (au cH az (af (pv 2)) (PE.sh (ag ah))))) aj)))))
  (ax (fJ (ib (cN (PE.sh (aB ky hr (by decide) (ab (ao (pv 4)) (ab (aB jL hr (by decide) (ab (au bE az (af (pv 3)) (PE.sh (ag ah))) aj)) (ab (aB fG hr (by decide) (ab (au cH az (af (pv 3)) (PE.sh (ag ah))) (ab (ag ah) aj))) aj))))))) (ax (be (ls ll))) da))))))
  (ax (be (ls ll))))
end
structure QF (K:PySem.W.Frag) (n:Str) (st:Stmt) (f:Addr) (od an:Option Addr) (sl:Array (Option Value)) (oc kV dc pm cd ct:Value):Prop where
 a:PySem.W.nsIn K mainGlobals n=some (some (.ref f))
 l:K.lookup f=some ⟨oc,od,.func (PySem.W.fnOf n n (jm st) (eI st) (aq st) .none kV dc pm an cd ct),sl⟩
 c:PySem.W.codeIn K cd n=true
 k:PySem.W.keepIn K (.ref f)=true
theorem all_mk {l:PySem.W.OpenLaw} {w:World} {K:PySem.W.Frag} {h:Heap} {mg:Str->Option Value} {fa:Addr} (X:K.In h) (G:h.Ns mainGlobals mg) (Z4:mg "law"=some (.ref fa))
  {f1 f2 f3 f4 f5 f6 f7 f8 f9 Z5 Z6 Z7 Z8 Z9 f15 f16 f17 f18 f19 f20 f21 f22 f23 f24 f25 f26 f27 f28 f29 f30 f32 f33 f34 f35 f36 f37 f38 f39 f40 f41 f42 f43 f44:Addr} {od1 an1 od2 an2 od3 an3 od4 an4 od5 an5 od6 an6 od7 an7 od8 an8 od9 an9 QX QY QZ Q0 Q2 Q3 Q4 Q5 Q6 Q7 Q8 Q9 Ra Rb Rc Rg Rh Ri Rj Rk Rl Rm Rn Ro Rp Rq Rr Rt Ru Rv Rw Rx Ry Rz RA RB RC RD RE RF RG RH RI RJ RK RL RM RN RO RP RQ RR RS RT RU RV RW RX RY RZ R4 R5 R6 R7 R8 R9 Sa N8:Option Addr} {Qp LF sl3 sl4 sl5 sl6 sl7 sl8 sl9 Sb Sd Se Sf Sg Sh Si Sj Sk Sl Sm Sn So Sq Sr Ss Su Sv Sw Sx Sy SA SD SE SF SG SH SI SJ SK SM SN SO SQ:Array (Option Value)} {oc1 kV1 dc1 pm1 cd1 ct1 oc2 kV2 dc2 pm2 cd2 ct2 oc3 kV3 dc3 pm3 cd3 ct3 oc4 kV4 dc4 pm4 cd4 ct4 oc5 kV5 dc5 pm5 cd5 ct5 oc6 kV6 dc6 pm6 cd6 ct6 oc7 kV7 dc7 pm7 cd7 ct7 oc8 kV8 dc8 pm8 cd8 ct8 oc9 kV9 dc9 pm9 cd9 ct9 SR SS SU SV SW SX SY S0 S4 S5 S6 S7 S8 S9 Ta Tb Tc Td Te Tf Tg Th Ti Tj Tn To Tp Tq Tr Ts Tt Tu Tv Tw Tx Tz TB TC TF TH TJ TK TL TM TN TQ TR TU TV TX TY TZ T1 T3 T4 T5 T6 T7 T8 T9 Ua Ub Uc Ud Ue Ug Uh Ui Uj Uk Ul Um Uo Up Uq Ur Us Ut Uu Uv Uw Ux Uy Uz UA UB UC UD N9 UE UG UH UI UJ UK UL UM UN UO UP Oa UQ UR US UT UU UW UX UY UZ U0 U1 U3 U4 U5 U6 U7 U8 U9 Va Vb Vc Vd Ve Vf Vg Vh Vi Vj Vk Vl Vm Vn Vo Vp Vq Vr Vs Vt Vu Vv Vw Vx Vy Vz VA VB VC VD VE VF VG VH VI VJ VL VM VN VO VP VQ VR VS VT VU VW VX VY VZ V0 V1 V2 V3 V4 V5 V6 V7 V8 V9 Wa Wb Wc Wd We Wf Wg Wh Wi Wj Wk Wl Wm Wn Wo Wp Wq Wr Ws Wt Ob Oc Od Oe Of:Value}
  (q1:QF K "frac" n8 f1 od1 an1 Qp oc1 kV1 dc1 pm1 cd1 ct1)
  (q2:QF K "plus" n9 f2 od2 an2 LF oc2 kV2 dc2 pm2 cd2 ct2)
  (q3:QF K "minus" kR f3 od3 an3 sl3 oc3 kV3 dc3 pm3 cd3 ct3)
  (q4:QF K "times" kT f4 od4 an4 sl4 oc4 kV4 dc4 pm4 cd4 ct4)
  (q5:QF K "over" oa f5 od5 an5 sl5 oc5 kV5 dc5 pm5 cd5 ct5)
  (q6:QF K "power" kU f6 od6 an6 sl6 oc6 kV6 dc6 pm6 cd6 ct6)
  (q7:QF K "under" kW f7 od7 an7 sl7 oc7 kV7 dc7 pm7 cd7 ct7)
  (q8:QF K "greatest_divisor" cm f8 od8 an8 sl8 oc8 kV8 dc8 pm8 cd8 ct8)
  (q9:QF K "leap" og f9 od9 an9 sl9 oc9 kV9 dc9 pm9 cd9 ct9)
  (q10:QF K "goes_on" iA Z5 QX QY Sb SR SS SU SV SW SX)
  (q11:QF K "come_to" gG Z6 QZ Q0 Sd SY S0 S4 S5 S6 S7)
  (q12:QF K "ends" me Z7 Q2 Q3 Se S8 S9 Ta Tb Tc Td)
  (q13:QF K "drawn_on" fA Z8 Q4 Q5 Sf Te Tf Tg Th Ti Tj)
  (q14:QF K "led_to" iI Z9 Q6 Q7 Sg Tn To Tp Tq Tr Ts)
  (q15:QF K "after" kX f15 Q8 Q9 Sh Tt Tu Tv Tw Tx Tz)
  (q16:QF K "common_bottom" cJ f16 Ra Rb Si TB TC TF TH TJ TK)
  (q17:QF K "tops_over" ee f17 Rc Rg Sj TL TM TN TQ TR TU)
  (q18:QF K "ways_from" fM f18 Rh Ri Sk TV TX TY TZ T1 T3)
  (q19:QF K "ratio" kY f19 Rj Rk Sl T4 T5 T6 T7 T8 T9)
  (q20:QF K "rule_by_ratio" cK f20 Rl Rm Sm Ua Ub Uc Ud Ue Ug)
  (q21:QF K "check_shares" di f21 Rn Ro Sn Uh Ui Uj Uk Ul Um)
  (q22:QF K "check_most" eR f22 Rp Rq So Uo Up Uq Ur Us Ut)
  (q23:QF K "often" kZ f23 Rr Rt Sq Uu Uv Uw Ux Uy Uz)
  (q24:QF K "by_falling_ratio" bj f24 Ru Rv Sr UA UB UC UD N9 UE)
  (q25:QF K "taken" k0 f25 Rw Rx Ss UG UH UI UJ UK UL)
  (q26:QF K "in_order" fB f26 Ry Rz Su UM UN UO UP Oa UQ)
  (q27:QF K "_law_cell" gH f27 RA RB Sv UR US UT UU UW UX)
  (q28:QF K "_law_digits" eS f28 RC RD Sw UY UZ U0 U1 U3 U4)
  (q29:QF K "_law_mixes" fN f29 RE RF Sx U5 U6 U7 U8 U9 Va)
  (q30:QF K "_law_plan" eA f30 RG RH Sy Vb Vc Vd Ve Vf Vg)
  (q32:QF K "_law_ends" eB f32 RI RJ SA Vh Vi Vj Vk Vl Vm)
  (q33:QF K "_law_ways" gI f33 RK RL SD Vn Vo Vp Vq Vr Vs)
  (q34:QF K "_law_whole" fP f34 RM RN SE Vt Vu Vv Vw Vx Vy)
  (q35:QF K "_law_divisor" dN f35 RO RP SF Vz VA VB VC VD VE)
  (q36:QF K "_law_is_frac" dO f36 RQ RR SG VF VG VH VI VJ VL)
  (q37:QF K "_law_shares" eU f37 RS RT SH VM VN VO VP VQ VR)
  (q38:QF K "_law_made" gJ f38 RU RV SI VS VT VU VW VX VY)
  (q39:QF K "_law_times" fQ f39 RW RX SJ VZ V0 V1 V2 V3 V4)
  (q40:QF K "_law_weight" eV f40 RY RZ SK V5 V6 V7 V8 V9 Wa)
  (q41:QF K "_law_heights" dQ f41 R4 R5 SM Wb Wc Wd We Wf Wg)
  (q42:QF K "_law_best" fD f42 R6 R7 SN Wh Wi Wj Wk Wl Wm)
  (q43:QF K "_law_asked" cP f43 R8 R9 SO Wn Wo Wp Wq Wr Ws)
  (q44:QF K "law" lB f44 Sa N8 SQ Wt Ob Oc Od Oe Of)
  {Og:Tok} (aLONG:PySem.W.nsIn K mainGlobals "LONG"=some (some (.int 4000 Og)))
  {Ht:Tok} (aWINDOW:PySem.W.nsIn K mainGlobals "WINDOW"=some (some (.int 240 Ht)))
  {Oh:Tok} (aSHED:PySem.W.nsIn K mainGlobals "SHED"=some (some (.int 120 Oh)))
  {dA:Addr} {EM:Option Addr} {EN:Array (Option Value)} {Hu:Nat} {EO ER:Tok} (aNOUGHT:PySem.W.nsIn K mainGlobals "NOUGHT"=some (some (.ref dA))) (lNOUGHT:K.lookup dA=some ⟨.type "tuple",EM,.seq #[.int (0) EO,.int (1) ER] Hu,EN⟩)
  {fE:Addr} {Hv:Option Addr} {Hw:Array (Option Value)} {Lv:Nat} {Hx Hy:Tok} (aWHOLE:PySem.W.nsIn K mainGlobals "WHOLE"=some (some (.ref fE))) (lWHOLE:K.lookup fE=some ⟨.type "tuple",Hv,.seq #[.int (1) Hx,.int (1) Hy] Lv,Hw⟩)
  (z_len:PySem.W.nsIn K mainGlobals "len"=some none)
  (z_range:PySem.W.nsIn K mainGlobals "range"=some none)
  (z_isinstance:PySem.W.nsIn K mainGlobals "isinstance"=some none)
  (z_max:PySem.W.nsIn K mainGlobals "max"=some none)
  (z_min:PySem.W.nsIn K mainGlobals "min"=some none)
  (z_int:PySem.W.nsIn K mainGlobals "int"=some none)
  (z_bool:PySem.W.nsIn K mainGlobals "bool"=some none)
  (z_tuple:PySem.W.nsIn K mainGlobals "tuple"=some none)
  (z_list:PySem.W.nsIn K mainGlobals "list"=some none)
  (z_abs:PySem.W.nsIn K mainGlobals "abs"=some none)
  (z_str:PySem.W.nsIn K mainGlobals "str"=some none)
  (z_sum:PySem.W.nsIn K mainGlobals "sum"=some none)
  (z_sorted:PySem.W.nsIn K mainGlobals "sorted"=some none)
  (z_reversed:PySem.W.nsIn K mainGlobals "reversed"=some none)
  (z_enumerate:PySem.W.nsIn K mainGlobals "enumerate"=some none)
  (z_set:PySem.W.nsIn K mainGlobals "set"=some none)
  (z_all:PySem.W.nsIn K mainGlobals "all"=some none)
  (z_zip:PySem.W.nsIn K mainGlobals "zip"=some none)
  (z_any:PySem.W.nsIn K mainGlobals "any"=some none)
  {Oi Wu Oj Wv:Addr} (lt:b9=[(Oi,(⟨130,44,130,70⟩:Pos),("by_falling_ratio.<locals>.<lambda>":Str)),(Oj,(⟨145,28,145,65⟩:Pos),("in_order.<locals>.<lambda>":Str))])
  (ct:b8=[(dA,[V.int (0),V.int (1)]),(fE,[V.int (1),V.int (1)])])
  (ne1_0:fE≠dA)
  (nl1_0:Oj≠Oi)
  (e24:N9=.ref Wu)
  (HD_by_falling_ratio:PySem.W.codeHdIn K Wu Oi=true)
  (kn24:K.lookup Oi=none)
  (e26:Oa=.ref Wv)
  (HD_in_order:PySem.W.codeHdIn K Wv Oj=true)
  (kn26:K.lookup Oj=none)
  :ly K /\ vV K /\ ∃ fd:FuncData,(∀ (s:Shared) (v:Value),BindsTo s fd ⟨[v],[]⟩ [("_law_script",v)]) /\ ∀ base:Heap,(bx K).In base->base.Ns mainGlobals mg->Gf mg base->lF l.prog w (bx K) mg base oX 10 fa fd ["_law_script"] (cS (bx K) 1 sE):=by
 have e:=Z4.symm.trans (PySem.W.mg_of X G q44.a)
 cases e
 have CK:ly K:=⟨(fun p xs m=>by have bq1_0:=beq_eq_false_iff_ne.mpr ne1_0; rw [ct] at m ⊢; simp only [List.mem_cons,List.not_mem_nil,or_false,Prod.mk.injEq] at m; rcases m with ⟨rfl,rfl⟩ | ⟨rfl,rfl⟩ <;> simp [List.lookup_cons, *]),(fun p xs m=>by have m:=Dk m; rw [ct] at m; simp only [List.mem_cons,List.not_mem_nil,or_false,Prod.mk.injEq] at m; rcases m with ⟨rfl,rfl⟩ | ⟨rfl,rfl⟩ <;> first | exact ⟨_,_,_,_,lNOUGHT,(by show 2<=sizeLine; decide),(.cons ⟨_,rfl⟩ (.cons ⟨_,rfl⟩ .nil))⟩ | exact ⟨_,_,_,_,lWHOLE,(by show 2<=sizeLine; decide),(.cons ⟨_,rfl⟩ (.cons ⟨_,rfl⟩ .nil))⟩)⟩
 have LO:vV K:=⟨(fun p y q m=>by have bq1_0:=beq_eq_false_iff_ne.mpr nl1_0; rw [lt] at m ⊢; simp only [List.mem_cons,List.not_mem_nil,or_false,Prod.mk.injEq] at m; rcases m with ⟨rfl,rfl,rfl⟩ | ⟨rfl,rfl,rfl⟩ <;> simp [List.lookup_cons, *]),(fun p y q m=>by rw [lt] at m; simp only [List.mem_cons,List.not_mem_nil,or_false,Prod.mk.injEq] at m; rcases m with ⟨rfl,rfl,rfl⟩ | ⟨rfl,rfl,rfl⟩ <;> first | exact ⟨kn24,_,HD_by_falling_ratio⟩ | exact ⟨kn26,_,HD_in_order⟩)⟩
 have Lw:Df (bx K) mg "frac" n8 ["top","bottom"]:=⟨_,_,(CK.func (aw (st:=n8) q1.l q1.c q1.k)),PySem.W.mg_of X G q1.a,(CK.func (aw (st:=n8) q1.l q1.c q1.k)).binds fun _ _ _ _ _ _ us hl=>match us,hl with | [_,_],_=>rfl⟩
 have Lx:Df (bx K) mg "plus" n9 ["one","other"]:=⟨_,_,(CK.func (aw (st:=n9) q2.l q2.c q2.k)),PySem.W.mg_of X G q2.a,(CK.func (aw (st:=n9) q2.l q2.c q2.k)).binds fun _ _ _ _ _ _ us hl=>match us,hl with | [_,_],_=>rfl⟩
 have Hz:Df (bx K) mg "minus" kR ["one","other"]:=⟨_,_,(CK.func (aw (st:=kR) q3.l q3.c q3.k)),PySem.W.mg_of X G q3.a,(CK.func (aw (st:=kR) q3.l q3.c q3.k)).binds fun _ _ _ _ _ _ us hl=>match us,hl with | [_,_],_=>rfl⟩
 have HA:Df (bx K) mg "times" kT ["one","other"]:=⟨_,_,(CK.func (aw (st:=kT) q4.l q4.c q4.k)),PySem.W.mg_of X G q4.a,(CK.func (aw (st:=kT) q4.l q4.c q4.k)).binds fun _ _ _ _ _ _ us hl=>match us,hl with | [_,_],_=>rfl⟩
 have Ly:Df (bx K) mg "over" oa ["one","other"]:=⟨_,_,(CK.func (aw (st:=oa) q5.l q5.c q5.k)),PySem.W.mg_of X G q5.a,(CK.func (aw (st:=oa) q5.l q5.c q5.k)).binds fun _ _ _ _ _ _ us hl=>match us,hl with | [_,_],_=>rfl⟩
 have HB:Df (bx K) mg "power" kU ["one","many"]:=⟨_,_,(CK.func (aw (st:=kU) q6.l q6.c q6.k)),PySem.W.mg_of X G q6.a,(CK.func (aw (st:=kU) q6.l q6.c q6.k)).binds fun _ _ _ _ _ _ us hl=>match us,hl with | [_,_],_=>rfl⟩
 have HC:Df (bx K) mg "under" kW ["one","other"]:=⟨_,_,(CK.func (aw (st:=kW) q7.l q7.c q7.k)),PySem.W.mg_of X G q7.a,(CK.func (aw (st:=kW) q7.l q7.c q7.k)).binds fun _ _ _ _ _ _ us hl=>match us,hl with | [_,_],_=>rfl⟩
 have mw:Df (bx K) mg "greatest_divisor" cm ["one","other"]:=⟨_,_,(CK.func (aw (st:=cm) q8.l q8.c q8.k)),PySem.W.mg_of X G q8.a,(CK.func (aw (st:=cm) q8.l q8.c q8.k)).binds fun _ _ _ _ _ _ us hl=>match us,hl with | [_,_],_=>rfl⟩
 have Lz:Df (bx K) mg "leap" og ["one","other"]:=⟨_,_,(CK.func (aw (st:=og) q9.l q9.c q9.k)),PySem.W.mg_of X G q9.a,(CK.func (aw (st:=og) q9.l q9.c q9.k)).binds fun _ _ _ _ _ _ us hl=>match us,hl with | [_,_],_=>rfl⟩
 have BN:Df (bx K) mg "goes_on" iA ["plan","count"]:=⟨_,_,(CK.func (aw (st:=iA) q10.l q10.c q10.k)),PySem.W.mg_of X G q10.a,(CK.func (aw (st:=iA) q10.l q10.c q10.k)).binds fun _ _ _ _ _ _ us hl=>match us,hl with | [_,_],_=>rfl⟩
 have BO:Df (bx K) mg "come_to" gG ["plan"]:=⟨_,_,(CK.func (aw (st:=gG) q11.l q11.c q11.k)),PySem.W.mg_of X G q11.a,(CK.func (aw (st:=gG) q11.l q11.c q11.k)).binds fun _ _ _ _ _ _ us hl=>match us,hl with | [_],_=>rfl⟩
 have LA:Df (bx K) mg "ends" me ["plan"]:=⟨_,_,(CK.func (aw (st:=me) q12.l q12.c q12.k)),PySem.W.mg_of X G q12.a,(CK.func (aw (st:=me) q12.l q12.c q12.k)).binds fun _ _ _ _ _ _ us hl=>match us,hl with | [_],_=>rfl⟩
 have zb:Df (bx K) mg "drawn_on" fA ["plan"]:=⟨_,_,(CK.func (aw (st:=fA) q13.l q13.c q13.k)),PySem.W.mg_of X G q13.a,(CK.func (aw (st:=fA) q13.l q13.c q13.k)).binds fun _ _ _ _ _ _ us hl=>match us,hl with | [_],_=>rfl⟩
 have ES:Df (bx K) mg "led_to" iI ["place"]:=⟨_,_,(CK.func (aw (st:=iI) q14.l q14.c q14.k)),PySem.W.mg_of X G q14.a,(CK.func (aw (st:=iI) q14.l q14.c q14.k)).binds fun _ _ _ _ _ _ us hl=>match us,hl with | [_],_=>rfl⟩
 have HE:Df (bx K) mg "after" kX ["count","sign"]:=⟨_,_,(CK.func (aw (st:=kX) q15.l q15.c q15.k)),PySem.W.mg_of X G q15.a,(CK.func (aw (st:=kX) q15.l q15.c q15.k)).binds fun _ _ _ _ _ _ us hl=>match us,hl with | [_,_],_=>rfl⟩
 have oU:Df (bx K) mg "common_bottom" cJ ["fractions"]:=⟨_,_,(CK.func (aw (st:=cJ) q16.l q16.c q16.k)),PySem.W.mg_of X G q16.a,(CK.func (aw (st:=cJ) q16.l q16.c q16.k)).binds fun _ _ _ _ _ _ us hl=>match us,hl with | [_],_=>rfl⟩
 have xb:Df (bx K) mg "tops_over" ee ["fractions","bottom"]:=⟨_,_,(CK.func (aw (st:=ee) q17.l q17.c q17.k)),PySem.W.mg_of X G q17.a,(CK.func (aw (st:=ee) q17.l q17.c q17.k)).binds fun _ _ _ _ _ _ us hl=>match us,hl with | [_,_],_=>rfl⟩
 have xc:Df (bx K) mg "ways_from" fM ["plan","beginning"]:=⟨_,_,(CK.func (aw (st:=fM) q18.l q18.c q18.k)),PySem.W.mg_of X G q18.a,(CK.func (aw (st:=fM) q18.l q18.c q18.k)).binds fun _ _ _ _ _ _ us hl=>match us,hl with | [_,_],_=>rfl⟩
 have HF:Df (bx K) mg "ratio" kY ["count","low","high"]:=⟨_,_,(CK.func (aw (st:=kY) q19.l q19.c q19.k)),PySem.W.mg_of X G q19.a,(CK.func (aw (st:=kY) q19.l q19.c q19.k)).binds fun _ _ _ _ _ _ us hl=>match us,hl with | [_,_,_],_=>rfl⟩
 have oV:Df (bx K) mg "rule_by_ratio" cK ["plan","low","high","most"]:=⟨_,_,(CK.func (aw (st:=cK) q20.l q20.c q20.k)),PySem.W.mg_of X G q20.a,(CK.func (aw (st:=cK) q20.l q20.c q20.k)).binds fun _ _ _ _ _ _ us hl=>match us,hl with | [_,_,_,_],_=>rfl⟩
 have qL:Df (bx K) mg "check_shares" di ["low","high"]:=⟨_,_,(CK.func (aw (st:=di) q21.l q21.c q21.k)),PySem.W.mg_of X G q21.a,(CK.func (aw (st:=di) q21.l q21.c q21.k)).binds fun _ _ _ _ _ _ us hl=>match us,hl with | [_,_],_=>rfl⟩
 have uM:Df (bx K) mg "check_most" eR ["most"]:=⟨_,_,(CK.func (aw (st:=eR) q22.l q22.c q22.k)),PySem.W.mg_of X G q22.a,(CK.func (aw (st:=eR) q22.l q22.c q22.k)).binds fun _ _ _ _ _ _ us hl=>match us,hl with | [_],_=>rfl⟩
 have HG:Df (bx K) mg "often" kZ ["count","share"]:=⟨_,_,(CK.func (aw (st:=kZ) q23.l q23.c q23.k)),PySem.W.mg_of X G q23.a,(CK.func (aw (st:=kZ) q23.l q23.c q23.k)).binds fun _ _ _ _ _ _ us hl=>match us,hl with | [_,_],_=>rfl⟩
 have mx:ND (bx K) mg "by_falling_ratio" bj ["choice"] Wu:=⟨_,_,(CK.func (aw (st:=bj) q24.l q24.c q24.k)),e24,PySem.W.mg_of X G q24.a,(CK.func (aw (st:=bj) q24.l q24.c q24.k)).binds fun _ _ _ _ _ _ us hl=>match us,hl with | [_],_=>rfl⟩
 have HH:Df (bx K) mg "taken" k0 ["choice","most"]:=⟨_,_,(CK.func (aw (st:=k0) q25.l q25.c q25.k)),PySem.W.mg_of X G q25.a,(CK.func (aw (st:=k0) q25.l q25.c q25.k)).binds fun _ _ _ _ _ _ us hl=>match us,hl with | [_,_],_=>rfl⟩
 have zc:ND (bx K) mg "in_order" fB ["rule"] Wv:=⟨_,_,(CK.func (aw (st:=fB) q26.l q26.c q26.k)),e26,PySem.W.mg_of X G q26.a,(CK.func (aw (st:=fB) q26.l q26.c q26.k)).binds fun _ _ _ _ _ _ us hl=>match us,hl with | [_],_=>rfl⟩
 have zd:Df (bx K) mg "_law_cell" gH ["_law_script","_law_k"]:=⟨_,_,(CK.func (aw (st:=gH) q27.l q27.c q27.k)),PySem.W.mg_of X G q27.a,(CK.func (aw (st:=gH) q27.l q27.c q27.k)).binds fun _ _ _ _ _ _ us hl=>match us,hl with | [_,_],_=>rfl⟩
 have uN:Df (bx K) mg "_law_digits" eS ["_law_cell_here","_law_base","_law_many"]:=⟨_,_,(CK.func (aw (st:=eS) q28.l q28.c q28.k)),PySem.W.mg_of X G q28.a,(CK.func (aw (st:=eS) q28.l q28.c q28.k)).binds fun _ _ _ _ _ _ us hl=>match us,hl with | [_,_,_],_=>rfl⟩
 have xf:Df (bx K) mg "_law_mixes" fN ["_law_cell_here","_law_base","_law_many"]:=⟨_,_,(CK.func (aw (st:=fN) q29.l q29.c q29.k)),PySem.W.mg_of X G q29.a,(CK.func (aw (st:=fN) q29.l q29.c q29.k)).binds fun _ _ _ _ _ _ us hl=>match us,hl with | [_,_,_],_=>rfl⟩
 have ze:Df (bx K) mg "_law_plan" eA ["_law_cell_here","_law_most_here"]:=⟨_,_,(CK.func (aw (st:=eA) q30.l q30.c q30.k)),PySem.W.mg_of X G q30.a,(CK.func (aw (st:=eA) q30.l q30.c q30.k)).binds fun _ _ _ _ _ _ us hl=>match us,hl with | [_,_],_=>rfl⟩
 have zf:Df (bx K) mg "_law_ends" eB ["_law_plan_here"]:=⟨_,_,(CK.func (aw (st:=eB) q32.l q32.c q32.k)),PySem.W.mg_of X G q32.a,(CK.func (aw (st:=eB) q32.l q32.c q32.k)).binds fun _ _ _ _ _ _ us hl=>match us,hl with | [_],_=>rfl⟩
 have zg:Df (bx K) mg "_law_ways" gI ["_law_plan_here"]:=⟨_,_,(CK.func (aw (st:=gI) q33.l q33.c q33.k)),PySem.W.mg_of X G q33.a,(CK.func (aw (st:=gI) q33.l q33.c q33.k)).binds fun _ _ _ _ _ _ us hl=>match us,hl with | [_],_=>rfl⟩
 have xg:Df (bx K) mg "_law_whole" fP ["_law_found"]:=⟨_,_,(CK.func (aw (st:=fP) q34.l q34.c q34.k)),PySem.W.mg_of X G q34.a,(CK.func (aw (st:=fP) q34.l q34.c q34.k)).binds fun _ _ _ _ _ _ us hl=>match us,hl with | [_],_=>rfl⟩
 have rH:Df (bx K) mg "_law_divisor" dN ["_law_one","_law_other"]:=⟨_,_,(CK.func (aw (st:=dN) q35.l q35.c q35.k)),PySem.W.mg_of X G q35.a,(CK.func (aw (st:=dN) q35.l q35.c q35.k)).binds fun _ _ _ _ _ _ us hl=>match us,hl with | [_,_],_=>rfl⟩
 have rJ:Df (bx K) mg "_law_is_frac" dO ["_law_found","_law_top","_law_bottom"]:=⟨_,_,(CK.func (aw (st:=dO) q36.l q36.c q36.k)),PySem.W.mg_of X G q36.a,(CK.func (aw (st:=dO) q36.l q36.c q36.k)).binds fun _ _ _ _ _ _ us hl=>match us,hl with | [_,_,_],_=>rfl⟩
 have uO:Df (bx K) mg "_law_shares" eU ["_law_cell_here"]:=⟨_,_,(CK.func (aw (st:=eU) q37.l q37.c q37.k)),PySem.W.mg_of X G q37.a,(CK.func (aw (st:=eU) q37.l q37.c q37.k)).binds fun _ _ _ _ _ _ us hl=>match us,hl with | [_],_=>rfl⟩
 have zh:Df (bx K) mg "_law_made" gJ ["_law_top","_law_bottom"]:=⟨_,_,(CK.func (aw (st:=gJ) q38.l q38.c q38.k)),PySem.W.mg_of X G q38.a,(CK.func (aw (st:=gJ) q38.l q38.c q38.k)).binds fun _ _ _ _ _ _ us hl=>match us,hl with | [_,_],_=>rfl⟩
 have xh:Df (bx K) mg "_law_times" fQ ["_law_base","_law_many"]:=⟨_,_,(CK.func (aw (st:=fQ) q39.l q39.c q39.k)),PySem.W.mg_of X G q39.a,(CK.func (aw (st:=fQ) q39.l q39.c q39.k)).binds fun _ _ _ _ _ _ us hl=>match us,hl with | [_,_],_=>rfl⟩
 have uP:Df (bx K) mg "_law_weight" eV ["_law_count","_law_top","_law_bottom"]:=⟨_,_,(CK.func (aw (st:=eV) q40.l q40.c q40.k)),PySem.W.mg_of X G q40.a,(CK.func (aw (st:=eV) q40.l q40.c q40.k)).binds fun _ _ _ _ _ _ us hl=>match us,hl with | [_,_,_],_=>rfl⟩
 have rK:Df (bx K) mg "_law_heights" dQ ["_law_found","_law_places","_law_both"]:=⟨_,_,(CK.func (aw (st:=dQ) q41.l q41.c q41.k)),PySem.W.mg_of X G q41.a,(CK.func (aw (st:=dQ) q41.l q41.c q41.k)).binds fun _ _ _ _ _ _ us hl=>match us,hl with | [_,_,_],_=>rfl⟩
 have zi:Df (bx K) mg "_law_best" fD ["_law_lows","_law_highs","_law_wrong","_law_caught"]:=⟨_,_,(CK.func (aw (st:=fD) q42.l q42.c q42.k)),PySem.W.mg_of X G q42.a,(CK.func (aw (st:=fD) q42.l q42.c q42.k)).binds fun _ _ _ _ _ _ us hl=>match us,hl with | [_,_,_,_],_=>rfl⟩
 have xi:Df (bx K) mg "_law_asked" cP ["_law_plan_here","_law_both","_law_most_here"]:=⟨_,_,(CK.func (aw (st:=cP) q43.l q43.c q43.k)),PySem.W.mg_of X G q43.a,(CK.func (aw (st:=cP) q43.l q43.c q43.k)).binds fun _ _ _ _ _ _ us hl=>match us,hl with | [_,_,_],_=>rfl⟩
 have XS:Df (bx K) mg "law" lB ["_law_script"]:=⟨_,_,(CK.func (aw (st:=lB) q44.l q44.c q44.k)),PySem.W.mg_of X G q44.a,(CK.func (aw (st:=lB) q44.l q44.c q44.k)).binds fun _ _ _ _ _ _ us hl=>match us,hl with | [_],_=>rfl⟩
 have y4:Cn mg "LONG" (.int 4000):=⟨_,PySem.W.mg_of X G aLONG,⟨_,rfl⟩⟩
 have qG:Cn mg "WINDOW" (.int 240):=⟨_,PySem.W.mg_of X G aWINDOW,⟨_,rfl⟩⟩
 have y3:Cn mg "SHED" (.int 120):=⟨_,PySem.W.mg_of X G aSHED,⟨_,rfl⟩⟩
 have eF:Cn mg "NOUGHT" (.ref dA):=⟨_,PySem.W.mg_of X G aNOUGHT,rfl⟩
 have eG:(dA,[V.int (0),V.int (1)])∈b8:=by rw [ct]; simp
 have ir:Cn mg "WHOLE" (.ref fE):=⟨_,PySem.W.mg_of X G aWHOLE,rfl⟩
 have iu:(fE,[V.int (1),V.int (1)])∈b8:=by rw [ct]; simp
 have B:Bs mg:=⟨PySem.W.mg_none_of X G z_len,PySem.W.mg_none_of X G z_range,PySem.W.mg_none_of X G z_isinstance,PySem.W.mg_none_of X G z_max,PySem.W.mg_none_of X G z_min,PySem.W.mg_none_of X G z_int,PySem.W.mg_none_of X G z_bool,PySem.W.mg_none_of X G z_tuple,PySem.W.mg_none_of X G z_list,PySem.W.mg_none_of X G z_abs,PySem.W.mg_none_of X G z_str,PySem.W.mg_none_of X G z_sum,PySem.W.mg_none_of X G z_sorted,PySem.W.mg_none_of X G z_reversed,PySem.W.mg_none_of X G z_enumerate,PySem.W.mg_none_of X G z_set,PySem.W.mg_none_of X G z_all,PySem.W.mg_none_of X G z_zip,PySem.W.mg_none_of X G z_any⟩
 have lg:(Oi,(⟨130,44,130,70⟩:Pos),("by_falling_ratio.<locals>.<lambda>":Str))∈b9:=by rw [lt]; simp
 have xj:(Oj,(⟨145,28,145,65⟩:Pos),("in_order.<locals>.<lambda>":Str))∈b9:=by rw [lt]; simp
 refine ⟨CK,LO,PySem.W.fnOf "law" "law" (jm lB) (eI lB) (aq lB) .none Ob Oc Od N8 Oe Of,fun s v=>.of_eq rfl,fun base _ _ BB=>?_⟩
 have y6:=Hn (P:=l.prog) (w:=w) (base:=base) Lz B qG y3
 have bo:=la (P:=l.prog) (w:=w) (base:=base) mw B y4 y6
 have i6:=Ho (P:=l.prog) (w:=w) (base:=base) Lw B bo
 have mf:=Hq (P:=l.prog) (w:=w) (base:=base) Lx B i6 bo
 have uF:=EE (P:=l.prog) (w:=w) (base:=base) Hz B mf
 have jG:=EF (P:=l.prog) (w:=w) (base:=base) HA B i6
 have y9:=Hr (P:=l.prog) (w:=w) (base:=base) Ly B i6 jG
 have pw:=EG (P:=l.prog) (w:=w) (base:=base) HB B
 have fi:=EH (P:=l.prog) (w:=w) (base:=base) HC B
 have oi:=y7 (P:=l.prog) (w:=w) (base:=base) BN B
 have qH:=BM (P:=l.prog) (w:=w) (base:=base) ES B
 have oh:=y8 (P:=l.prog) (w:=w) (base:=base) BO B qH
 have za:=Hs (P:=l.prog) (w:=w) (base:=base) LA B oh oi
 have mm:=wY (P:=l.prog) (w:=w) (base:=base) zb B
 have pq:=EI (P:=l.prog) (w:=w) (base:=base) HE B
 have hV:=oj (P:=l.prog) (w:=w) (base:=base) oU B bo
 have kr:=uD (P:=l.prog) (w:=w) (base:=base) xb B
 have ku:=uE (P:=l.prog) (w:=w) (base:=base) xc B pq mm
 have dj:=oT (P:=l.prog) (w:=w) (base:=base) qL B eF eG ir iu fi
 have iT:=EJ (P:=l.prog) (w:=w) (base:=base) HG B ir iu uF pw
 have uG:=EK (P:=l.prog) (w:=w) (base:=base) HF B dj iT y9
 have fF:=lb (P:=l.prog) (w:=w) (base:=base) mx B (Dr CK HD_by_falling_ratio) lg BB hV kr
 have jI:=rD (P:=l.prog) (w:=w) (base:=base) uM B eF eG ir iu fi
 have jH:=wZ (P:=l.prog) (w:=w) (base:=base) zc B (Dr CK HD_in_order) xj BB
 have uH:=EL (P:=l.prog) (w:=w) (base:=base) HH B eF eG jH mf fi
 have hX:=om (P:=l.prog) (w:=w) (base:=base) oV B fF jI dj za iT uG uH jG ku
 have jK:=w4 (P:=l.prog) (w:=w) (base:=base) zd B
 have jJ:=rE (P:=l.prog) (w:=w) (base:=base) uN B
 have kx:=uI (P:=l.prog) (w:=w) (base:=base) xf B
 have mr:=w5 (P:=l.prog) (w:=w) (base:=base) ze B jJ kx
 have mo:=w6 (P:=l.prog) (w:=w) (base:=base) zf B
 have mq:=w8 (P:=l.prog) (w:=w) (base:=base) zg B
 have iU:=uJ (P:=l.prog) (w:=w) (base:=base) xg B
 have dS:=qI (P:=l.prog) (w:=w) (base:=base) rH B
 have gP:=qJ (P:=l.prog) (w:=w) (base:=base) rJ B dS iU
 have jL:=rF (P:=l.prog) (w:=w) (base:=base) uO B
 have fG:=w9 (P:=l.prog) (w:=w) (base:=base) zh B dS
 have du:=uK (P:=l.prog) (w:=w) (base:=base) xh B
 have cQ:=rG (P:=l.prog) (w:=w) (base:=base) uP B du
 have i7:=qK (P:=l.prog) (w:=w) (base:=base) rK B cQ
 have mn:=xa (P:=l.prog) (w:=w) (base:=base) zi B
 have ky:=uL (P:=l.prog) (w:=w) (base:=base) xi B mn mo i7 gP fG du mq cQ hX
 exact Lu (P:=l.prog) (w:=w) (base:=base) (CK.func (aw (st:=lB) q44.l q44.c q44.k)) B ky jK fG mr jL
theorem walk {l:PySem.W.OpenLaw} {q:Program} {loose:List Str} {XP:(Str->Option Value)->Heap->Prop} {YP:World->Heap->Prop} {d:DefRec} {K:Params->PySem.W.Frag} (hn:l.most=some 63) (MF:d.params.defaults=[])
  (hY:∀ (w:World) (h:Heap),YP w h->(K w.params).In h /\ ∀ p y q,(p,y,q)∈b9->h.get? p=some (PySem.W.tabObj #[]))
  (F:∀ (w:World) (mg:Str->Option Value) (fa:Addr) (h:Heap),(K w.params).In h->h.Ns mainGlobals mg->mg d.name=some (.ref fa)->
   ly (K w.params) /\ vV (K w.params) /\ ∃ fd:FuncData,(∀ (s:Shared) (u:Value),BindsTo s fd ⟨[u],[]⟩ [("_law_script",u)]) /\ ∀ base:Heap,(bx (K w.params)).In base->base.Ns mainGlobals mg->Gf mg base->lF l.prog w (bx (K w.params)) mg base oX 10 fa fd ["_law_script"] (cS (bx (K w.params)) 1 sE)):
  PySem.W.WalkO q loose XP YP l.row.toRowW d [] (fun f vs=>PySem.call f vs):=
 L2.Ds (n:=63) (k:=10) (x:="_law_script") (sp:=fun w=>cS (bx (K w.params)) 1 sE) hn (by decide) MF ⟨rfl,by decide,by decide⟩ hY F (fun _ _ a ns hl hS hC hT=>⟨rfl,[],[.list (ns.map PyData.int)],.bool true,⟨fun _ z=>by simp at z,hC,hT⟩,by rw [pJ]; exact .cons (.lst hS (cv.ints ns)) .nil,Ez ns hl,fun v H' s h=>by cases h; exact ⟨rfl,s⟩⟩)
end aF
open PySem PySem.W PyProof.Rows
set_option tactic.hygienic true
set_option maxRecDepth 100000 in
set_option maxHeartbeats 0 in
theorem PySem.Challenge.cw_lotdraw_k48_whole_no_rule_catches_more_holds : PySem.Challenge.rw_lotdraw_k48_whole_no_rule_catches_more.Holds := by
 w_on; o_law
 refine PySem.W.holds_open (q:=aF.uS) (loose:=[]) (Xt:=aF.Ww) (XP:=XL aF.uS []) (Yf:=Hook.obs (kmHook aF.LX aF.LY aF.BS aF.LZ)) (Ya:=Hook.val (kmHook aF.LX aF.LY aF.BS aF.LZ)) (YP:=Hook.says (kmHook aF.LX aF.LY aF.BS aF.LZ)) (N:=4264) (Hd.Ax ?h1 rfl (fun _=>rfl) aF.Fb aF.Fc) (Hook.of _) (Hook.keeps _) (fun s e=>xl_of s (Bool.and_eq_true_iff.mp e).1) XL.keeps (by rfl) (by rfl) (by rfl) (fun s e=>recFacts_of (Bool.and_eq_true_iff.mp e).2) rfl (by first | assumption | decide +kernel) (by decide +kernel) ⟨rfl,rfl,rfl,rfl,rfl,by decide +kernel⟩ ?hw ?hc
 case h1=>kernel_rfl
 case hw=>w_witness2
 k_fill
 refine aF.walk (l:=PySem.Challenge.rw_lotdraw_k48_whole_no_rule_catches_more) rfl rfl (fun w h Y=>⟨PySem.W.km_in_of Y,fun p y q m=>PySem.W.km_tabs_of Y p (L2.KD rfl m)⟩) ?F
 case F=>
  intro w mg fa h KX G MG
  refine' aF.all_mk KX G MG ?q1 ?q2 ?q3 ?q4 ?q5 ?q6 ?q7 ?q8 ?q9 ?q10 ?q11 ?q12 ?q13 ?q14 ?q15 ?q16 ?q17 ?q18 ?q19 ?q20 ?q21 ?q22 ?q23 ?q24 ?q25 ?q26 ?q27 ?q28 ?q29 ?q30 ?q32 ?q33 ?q34 ?q35 ?q36 ?q37 ?q38 ?q39 ?q40 ?q41 ?q42 ?q43 ?q44 ?aLONG ?aWINDOW ?aSHED ?aNOUGHT ?lNOUGHT ?aWHOLE ?lWHOLE ?z_len ?z_range ?z_isinstance ?z_max ?z_min ?z_int ?z_bool ?z_tuple ?z_list ?z_abs ?z_str ?z_sum ?z_sorted ?z_reversed ?z_enumerate ?z_set ?z_all ?z_zip ?z_any ?lt ?ct ?ne1_0 ?nl1_0 ?e24 ?HD_by_falling_ratio ?kn24 ?e26 ?HD_in_order ?kn26
  (case q1=>refine' ⟨?x,?y,?z,?t⟩; (case x=>k_is); (case y=>k_is); (case z=>k_is); (case t=>k_is))
  (case q2=>refine' ⟨?x,?y,?z,?t⟩; (case x=>k_is); (case y=>k_is); (case z=>k_is); (case t=>k_is))
  (case q3=>refine' ⟨?x,?y,?z,?t⟩; (case x=>k_is); (case y=>k_is); (case z=>k_is); (case t=>k_is))
  (case q4=>refine' ⟨?x,?y,?z,?t⟩; (case x=>k_is); (case y=>k_is); (case z=>k_is); (case t=>k_is))
  (case q5=>refine' ⟨?x,?y,?z,?t⟩; (case x=>k_is); (case y=>k_is); (case z=>k_is); (case t=>k_is))
  (case q6=>refine' ⟨?x,?y,?z,?t⟩; (case x=>k_is); (case y=>k_is); (case z=>k_is); (case t=>k_is))
  (case q7=>refine' ⟨?x,?y,?z,?t⟩; (case x=>k_is); (case y=>k_is); (case z=>k_is); (case t=>k_is))
  (case q8=>refine' ⟨?x,?y,?z,?t⟩; (case x=>k_is); (case y=>k_is); (case z=>k_is); (case t=>k_is))
  (case q9=>refine' ⟨?x,?y,?z,?t⟩; (case x=>k_is); (case y=>k_is); (case z=>k_is); (case t=>k_is))
  (case q10=>refine' ⟨?x,?y,?z,?t⟩; (case x=>k_is); (case y=>k_is); (case z=>k_is); (case t=>k_is))
  (case q11=>refine' ⟨?x,?y,?z,?t⟩; (case x=>k_is); (case y=>k_is); (case z=>k_is); (case t=>k_is))
  (case q12=>refine' ⟨?x,?y,?z,?t⟩; (case x=>k_is); (case y=>k_is); (case z=>k_is); (case t=>k_is))
  (case q13=>refine' ⟨?x,?y,?z,?t⟩; (case x=>k_is); (case y=>k_is); (case z=>k_is); (case t=>k_is))
  (case q14=>refine' ⟨?x,?y,?z,?t⟩; (case x=>k_is); (case y=>k_is); (case z=>k_is); (case t=>k_is))
  (case q15=>refine' ⟨?x,?y,?z,?t⟩; (case x=>k_is); (case y=>k_is); (case z=>k_is); (case t=>k_is))
  (case q16=>refine' ⟨?x,?y,?z,?t⟩; (case x=>k_is); (case y=>k_is); (case z=>k_is); (case t=>k_is))
  (case q17=>refine' ⟨?x,?y,?z,?t⟩; (case x=>k_is); (case y=>k_is); (case z=>k_is); (case t=>k_is))
  (case q18=>refine' ⟨?x,?y,?z,?t⟩; (case x=>k_is); (case y=>k_is); (case z=>k_is); (case t=>k_is))
  (case q19=>refine' ⟨?x,?y,?z,?t⟩; (case x=>k_is); (case y=>k_is); (case z=>k_is); (case t=>k_is))
  (case q20=>refine' ⟨?x,?y,?z,?t⟩; (case x=>k_is); (case y=>k_is); (case z=>k_is); (case t=>k_is))
  (case q21=>refine' ⟨?x,?y,?z,?t⟩; (case x=>k_is); (case y=>k_is); (case z=>k_is); (case t=>k_is))
  (case q22=>refine' ⟨?x,?y,?z,?t⟩; (case x=>k_is); (case y=>k_is); (case z=>k_is); (case t=>k_is))
  (case q23=>refine' ⟨?x,?y,?z,?t⟩; (case x=>k_is); (case y=>k_is); (case z=>k_is); (case t=>k_is))
  (case q24=>refine' ⟨?x,?y,?z,?t⟩; (case x=>k_is); (case y=>k_is); (case z=>k_is); (case t=>k_is))
  (case q25=>refine' ⟨?x,?y,?z,?t⟩; (case x=>k_is); (case y=>k_is); (case z=>k_is); (case t=>k_is))
  (case q26=>refine' ⟨?x,?y,?z,?t⟩; (case x=>k_is); (case y=>k_is); (case z=>k_is); (case t=>k_is))
  (case q27=>refine' ⟨?x,?y,?z,?t⟩; (case x=>k_is); (case y=>k_is); (case z=>k_is); (case t=>k_is))
  (case q28=>refine' ⟨?x,?y,?z,?t⟩; (case x=>k_is); (case y=>k_is); (case z=>k_is); (case t=>k_is))
  (case q29=>refine' ⟨?x,?y,?z,?t⟩; (case x=>k_is); (case y=>k_is); (case z=>k_is); (case t=>k_is))
  (case q30=>refine' ⟨?x,?y,?z,?t⟩; (case x=>k_is); (case y=>k_is); (case z=>k_is); (case t=>k_is))
  (case q32=>refine' ⟨?x,?y,?z,?t⟩; (case x=>k_is); (case y=>k_is); (case z=>k_is); (case t=>k_is))
  (case q33=>refine' ⟨?x,?y,?z,?t⟩; (case x=>k_is); (case y=>k_is); (case z=>k_is); (case t=>k_is))
  (case q34=>refine' ⟨?x,?y,?z,?t⟩; (case x=>k_is); (case y=>k_is); (case z=>k_is); (case t=>k_is))
  (case q35=>refine' ⟨?x,?y,?z,?t⟩; (case x=>k_is); (case y=>k_is); (case z=>k_is); (case t=>k_is))
  (case q36=>refine' ⟨?x,?y,?z,?t⟩; (case x=>k_is); (case y=>k_is); (case z=>k_is); (case t=>k_is))
  (case q37=>refine' ⟨?x,?y,?z,?t⟩; (case x=>k_is); (case y=>k_is); (case z=>k_is); (case t=>k_is))
  (case q38=>refine' ⟨?x,?y,?z,?t⟩; (case x=>k_is); (case y=>k_is); (case z=>k_is); (case t=>k_is))
  (case q39=>refine' ⟨?x,?y,?z,?t⟩; (case x=>k_is); (case y=>k_is); (case z=>k_is); (case t=>k_is))
  (case q40=>refine' ⟨?x,?y,?z,?t⟩; (case x=>k_is); (case y=>k_is); (case z=>k_is); (case t=>k_is))
  (case q41=>refine' ⟨?x,?y,?z,?t⟩; (case x=>k_is); (case y=>k_is); (case z=>k_is); (case t=>k_is))
  (case q42=>refine' ⟨?x,?y,?z,?t⟩; (case x=>k_is); (case y=>k_is); (case z=>k_is); (case t=>k_is))
  (case q43=>refine' ⟨?x,?y,?z,?t⟩; (case x=>k_is); (case y=>k_is); (case z=>k_is); (case t=>k_is))
  (case q44=>refine' ⟨?x,?y,?z,?t⟩; (case x=>k_is); (case y=>k_is); (case z=>k_is); (case t=>k_is))
  (case aLONG=>k_is)
  (case aWINDOW=>k_is)
  (case aSHED=>k_is)
  (case aNOUGHT=>k_is)
  (case lNOUGHT=>k_is)
  (case aWHOLE=>k_is)
  (case lWHOLE=>k_is)
  (case z_len=>kernel_rfl)
  (case z_range=>kernel_rfl)
  (case z_isinstance=>kernel_rfl)
  (case z_max=>kernel_rfl)
  (case z_min=>kernel_rfl)
  (case z_int=>kernel_rfl)
  (case z_bool=>kernel_rfl)
  (case z_tuple=>kernel_rfl)
  (case z_list=>kernel_rfl)
  (case z_abs=>kernel_rfl)
  (case z_str=>kernel_rfl)
  (case z_sum=>kernel_rfl)
  (case z_sorted=>kernel_rfl)
  (case z_reversed=>kernel_rfl)
  (case z_enumerate=>kernel_rfl)
  (case z_set=>kernel_rfl)
  (case z_all=>kernel_rfl)
  (case z_zip=>kernel_rfl)
  (case z_any=>kernel_rfl)
  (case lt=>rfl)
  (case ct=>rfl)
  (case ne1_0=>decide)
  (case nl1_0=>decide)
  (case e24=>rfl)
  (case HD_by_falling_ratio=>kernel_rfl)
  (case kn24=>kernel_rfl)
  (case e26=>rfl)
  (case HD_in_order=>kernel_rfl)
  (case kn26=>kernel_rfl)
end
