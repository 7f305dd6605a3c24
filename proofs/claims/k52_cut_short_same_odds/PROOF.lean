import PyProof.Rows.All
import Wide.All
import OpenK.AllK
import Wide.FinOn
import Lean
import PyProof.EqAt
import PyProof.EqKinds
import PyProof.TupleCall
import PySem.Challenge.RW_lotdraw_k52_cut_short_same_odds
set_option Elab.async false
set_option linter.all false
set_option maxRecDepth 100000
set_option tactic.hygienic false
noncomputable section
namespace L2
open PySem
def jw (s:Stmt):Arguments:=match s with
 | .FunctionDef _ a _ _ _ _ _ _ _ _=>a
 | _=>{ posonlyargs:=[],args:=[],vararg:=none,kwonlyargs:=[],kw_defaults:=[],kwarg:=none,defaults:=[] }
def cz (s:Stmt):List Stmt:=match s with
 | .FunctionDef _ _ b _ _ _ _ _ _ _=>b
 | _=>[]
def ai (s:Stmt):Scope:=match s with
 | .FunctionDef _ _ _ _ _ _ sc _ _ _=>sc
 | _=>{ kind:=.function,names:=[],isGenerator:=false,isCoroutine:=false }
end L2
namespace Hd
open PySem PySem.W
def wO (tb:String->Option Builtin) (p:Program) (w:World) (m:Nat) (ann:Option Value):Nat->SharedT->Thread->Option SharedT
 | 0,_,_=>none
 | n + 1,s,t=>match through t with
   | true=>some s
   | false=>match stepOk m ann t with
     | false=>none
     | true=>match stepT (denote tb) p w s t with
       | some (s',t')=>wO tb p w m ann n s' t'
       | none=>none
theorem yV {tb:String->Option Builtin} {p:Program} {w:World} {m:Nat} {ann:Option Value}:∀ {n:Nat} {s s':SharedT} {t:Thread},wO tb p w m ann n s t=some s'->topRun tb p w m ann n s.abs t=some s'.abs
 | 0,_,_,_,h=>by cases h
 | n + 1,s,s',t,h=>by
   unfold wO at h
   unfold topRun
   cases he:through t with
   | true=>rw [he] at h; cases h; rfl
   | false=>
     rw [he] at h
     cases hk:stepOk m ann t with
     | false=>rw [hk] at h; cases h
     | true=>
       rw [hk] at h
       cases hs:stepT (denote tb) p w s t with
       | none=>rw [hs] at h; cases h
       | some r=>obtain ⟨s2,t2⟩:=r; rw [hs] at h; rw [stepT_spec hs]; exact yV h
def Bw (P:Params):BT:=(.node (boot_o_0 P) (.node (boot_o_1 P) (.node (boot_o_3 P) (.node (boot_o_7 P) .nil .nil) .nil) (.node (boot_o_5 P) (.node (boot_o_9 P) .nil .nil) .nil)) (.node (boot_o_2 P) (.node (boot_o_4 P) (.node (boot_o_8 P) .nil .nil) .nil) (.node (boot_o_6 P) (.node (boot_o_10 P) .nil .nil) .nil)))
theorem boot_abs (P:Params):boot_heap P=absHeap (Bw P) 11 (boot_heap P).life:=by kernel_rfl
def uu (w:World) (os:OsState):SharedT:=⟨Bw w.params,11,(boot_heap w.params).life,Array.mk [],boot_drawn,boot_toks,os⟩
theorem EY (w:World) (os:OsState):(uu w os).abs=⟨boot_heap w.params,Array.mk [],boot_drawn,boot_toks,os⟩:=by
 show Shared.mk (absHeap (Bw w.params) 11 (boot_heap w.params).life) _ _ _ _=_
 rw [<- boot_abs]; rfl
theorem zW (P:Params):((boot_heap P).isNs mainGlobals,(boot_heap P).objs.size,(boot_heap P).nsMap mainGlobals "__annotations__")=(true,11,some (.ref 6)):=by kernel_rfl
theorem zX {p q:Program} {loose:List Str} {Xt:Shared->Bool} {α:Type} {Yf:Shared->α} {Ya:World->α} {N:Nat} (e:opening p=plainProg p.main.scope.names) (hN:Nat.ble 600 N=true) (f:∀ s,fenceModules? p s=some s)
  (one:∀ (w:World) (os:OsState),(wO treeTable p w 11 (some (.ref 6)) N (uu w os) (topStub p)).map (fun s=>((staticsOk (importedModules p.main.body) (boot_heap w.params) s.abs.heap && namesBound p s.abs.heap && gensDone s.abs && laidKept (boot_heap w.params) s.abs.heap),Yf s.abs))=some (true,Ya w))
  (two:∀ (w:World) (os:OsState),(wO treeTable p w 11 (some (.ref 6)) N (uu w os) (topStub p)).map (fun s=>openSeen q loose (importedModules p.main.body) Xt true s.abs)=some (openGood q loose)):
  LeftO p q loose Xt Yf Ya N:=fun w=>by
 obtain ⟨⟨h,gs,d,k,os⟩,e1,e2⟩:=Option.map_eq_some_iff.mp (boot_open e hN f w)
 obtain ⟨rfl,rfl,rfl,rfl⟩:h=boot_heap w.params /\ gs=Array.mk [] /\ d=boot_drawn /\ k=boot_toks:=by simpa using e2
 obtain ⟨s,r,l⟩:=Option.map_eq_some_iff.mp (one w os)
 obtain ⟨l1,l3⟩:_ /\ _:=by simpa only [Prod.mk.injEq] using l
 have l2:openSeen q loose (importedModules p.main.body) Xt true s.abs=openGood q loose:=by
  have:=two w os
  rw [r] at this
  exact Option.some.inj this
 obtain ⟨z1,z2,z3⟩:_ /\ _ /\ _:=by simpa only [Prod.mk.injEq] using zW w.params
 have r':=yV r
 rw [EY] at r'
 have t:topFrom treeTable p w N ⟨boot_heap w.params,Array.mk [],boot_drawn,boot_toks,os⟩=some s.abs:=by
  unfold topFrom
  dsimp only
  rw [z1,z2,z3,r']
  show (match staticsOk (importedModules p.main.body) (boot_heap w.params) s.abs.heap && namesBound p s.abs.heap && gensDone s.abs && laidKept (boot_heap w.params) s.abs.heap with | true=>_ | false=>_)=_
  rw [l1]
 unfold openEnds
 rw [e1]
 show (topFrom treeTable p w N ⟨boot_heap w.params,Array.mk [],boot_drawn,boot_toks,os⟩).map _=_
 rw [t,Option.map_some,l2,l3]
end Hd
namespace aK
open PySem PySem.W L2
def top (i:Nat):Stmt:=PySem.Challenge.pw_lotdraw_k52_cut_short_same_odds.main.body.getD i (.Pass ⟨0,0,0,0⟩)
def uv:Program:={ PySem.Challenge.pw_lotdraw_k52_cut_short_same_odds with main:={ PySem.Challenge.pw_lotdraw_k52_cut_short_same_odds.main with body:=[top 1,top 2,top 3,top 4,top 5,top 6,top 7,top 8,top 9,top 10,top 11,top 12,top 13,top 14,top 15,top 16,top 18,top 19,top 20,top 21,top 22,top 23,top 24,top 25,top 26,top 27,top 29,top 30,top 31,top 32,top 33,top 35,top 36,top 37,top 38,top 39,top 40,top 41,top 42,top 43,top 44,top 45,top 46,top 47,top 48,top 49,top 50,top 51] } }
abbrev ent (P:Params) (k:Str) (n:Nat) (v:Value):DictEntry:=⟨PyData.keyHash P k,.str k n,v⟩
abbrev wQ (P:Params):=fun x0 x1 x2 x3 x4 x5 x6=>(⟨(.type "dict"),none,(.dict #[(ent P "__module__" x0 (.str "lotdraw.errors" 187)),(ent P "__firstlineno__" x1 (.int x2 x3)),(ent P "__static_attributes__" x4 (.ref x5)),(ent P "__doc__" x6 .none)] 2),#[]⟩:Obj)
abbrev mH (P:Params):=fun x0 x1 x2 x3 x4 x5=>(⟨(.type "type"),none,(.cls ⟨x0,[(.ref 24)],[(.ref x1),(.ref 24),(.type "ValueError"),(.type "Exception"),(.type "BaseException"),(.type "object")],x2,x0,true,[],[],false,none,false⟩),#[(some (.ref x3)),none,(some (.str x0 x4)),(some (.str x0 x5)),(some (.builtin "ValueError.__new__")),(some (.bool true))]⟩:Obj)
abbrev j7 (P:Params):=fun x0 x1 x2 x3 x4 x5 x6 x7 x8 x9 OE VM VN=>(⟨(.type "code"),none,(.fields #[(.str x0 x1),(.str x0 x2),(.str "/claim/cut.py" x3),(.int x4 0),(.int x5 0),(.int 0 0),(.int 0 0),(.int 3 0),(.ref x6),(.bool true),(.int 181 0),(.ref x7),.none,(.ref x8),(.ref x9),(.ref OE),(.int VM 0),(.int x4 0),(.str "/claim/cut.py" VN)]),#[]⟩:Obj)
abbrev lP (P:Params):=fun x0 x1 x2 x3 x4=>(⟨(.type "function"),none,.func (fnOf x0 x0 (jw (top x1)) (cz (top x1)) (ai (top x1)) .none .none .none (.str x2 x3) none (.ref x4) .none),#[]⟩:Obj)
abbrev yW (P:Params):=fun x0 x1 x2 x3 x4 x5 x6 x7 x8 x9 OE=>(⟨(.type "code"),none,(.fields #[(.str x0 x1),(.str x0 x2),(.str "/claim/cut.py" x3),(.int x4 0),(.int x5 0),(.int 0 0),(.int 0 0),(.int 3 0),(.ref x6),(.bool true),(.int 181 0),(.ref x7),.none,.none,.none,(.ref x8),(.int x9 0),(.int x4 0),(.str "/claim/cut.py" OE)]),#[]⟩:Obj)
def Lz:Params->Frag:=fun P=>(nat_lit 2,⟨.none,none,(.dict #[] 0),#[]⟩) ::
 (nat_lit 3,⟨(.type "dict"),none,(.dict #[(ent P "__name__" 165 (.str "law_lotdraw_k52_cut_short_same_odds" 543)),(ent P "__doc__" 166 .none),(ent P "__package__" 167 .none),(ent P "__loader__" 168 (.builtin "__main__.__loader__#opaque")),(ent P "__spec__" 169 .none),(ent P "__annotations__" 170 (.ref 6)),(ent P "__builtins__" 171 (.ref 4)),(ent P "__file__" 173 (.str "/claim/cut.py" 172)),(ent P "__cached__" 174 .none),(ent P "LotError" 206 (.ref 24)),(ent P "NoNumber" 222 (.ref 37)),(ent P "NoPlan" 238 (.ref 49)),(ent P "TooLong" 254 (.ref 61)),(ent P "NoText" 270 (.ref 73)),(ent P "NoEnd" 286 (.ref 85)),(ent P "TooMany" 302 (.ref 97)),(ent P "NoRow" 318 (.ref 109)),(ent P "NoTelling" 334 (.ref 121)),(ent P "NoLot" 350 (.ref 133)),(ent P "NotOnly" 366 (.ref 145)),(ent P "Only" 382 (.ref 157)),(ent P "NoShares" 398 (.ref 169)),(ent P "NoDeed" 414 (.ref 181)),(ent P "NoName" 430 (.ref 193)),(ent P "NoDraw" 446 (.ref 205)),(ent P "MOST_PLACES" 450 (.int 24 449)),(ent P "plan_from" 459 (.ref 214)),(ent P "goes_on" 468 (.ref 221)),(ent P "come_to" 474 (.ref 226)),(ent P "ends" 480 (.ref 231)),(ent P "drawn_on" 486 (.ref 236)),(ent P "check_ends" 496 (.ref 243)),(ent P "plan_while" 502 (.ref 248)),(ent P "led_to" 508 (.ref 253)),(ent P "after" 516 (.ref 260)),(ent P "REFUSED" 520 (.str "refused" 519)),(ent P "LET_BY" 522 (.str "let by" 521)),(ent P "UNSETTLED" 524 (.str "not settled" 523)),(ent P "cut_short" 530 (.ref 265)),(ent P "answers_at" 542 (.ref 272)),(ent P "_law_cell" 552 (.ref 279)),(ent P "_law_digits" 563 (.ref 286)),(ent P "_law_mixes" 575 (.ref 293)),(ent P "_law_plan" 581 (.ref 298)),(ent P "_law_most" 588 (.ref 305)),(ent P "_law_ends" 594 (.ref 310)),(ent P "_law_ways" 607 (.ref 317)),(ent P "_law_power" 613 (.ref 322)),(ent P "_law_added" 619 (.ref 327)),(ent P "_law_word" 625 (.ref 332)),(ent P "_law_rule" 631 (.ref 337)),(ent P "_law_bits" 639 (.ref 344)),(ent P "_law_is_plan" 645 (.ref 349)),(ent P "_law_odds" 656 (.ref 356)),(ent P "_law_right" 662 (.ref 361)),(ent P "_law_refused" 671 (.ref 368)),(ent P "law" 684 (.ref 375))] 57),#[]⟩) ::
 (nat_lit 23,⟨(.type "dict"),none,(.dict #[(ent P "__module__" 196 (.str "lotdraw.errors" 187)),(ent P "__firstlineno__" 200 (.int 2 199)),(ent P "__static_attributes__" 201 (.ref 22)),(ent P "__weakref__" 203 (.ref 25)),(ent P "__doc__" 204 .none)] 3),#[]⟩) ::
 (nat_lit 24,⟨(.type "type"),none,(.cls ⟨"LotError",[(.type "ValueError")],[(.ref 24),(.type "ValueError"),(.type "Exception"),(.type "BaseException"),(.type "object")],23,"LotError",true,[],[(.ref 37),(.ref 49),(.ref 61),(.ref 73),(.ref 85),(.ref 97),(.ref 109),(.ref 121),(.ref 133),(.ref 145),(.ref 157),(.ref 169),(.ref 181),(.ref 193),(.ref 205)],false,none,false⟩),#[(some (.ref 15)),none,(some (.str "LotError" 189)),(some (.str "LotError" 197)),(some (.builtin "ValueError.__new__")),(some (.bool true))]⟩) ::
 (nat_lit 25,⟨(.type "getset_descriptor"),none,(.fields #[(.str "__weakref__" 202),(.ref 24),(.builtin "ExceptionGroup.__weakref__"),.none]),#[]⟩) ::
 (nat_lit 36,wQ P 214 218 4 217 219 35 220) ::
 (nat_lit 37,mH P "NoNumber" 37 36 28 207 215) ::
 (nat_lit 48,wQ P 230 234 6 233 235 47 236) ::
 (nat_lit 49,mH P "NoPlan" 49 48 40 223 231) ::
 (nat_lit 60,wQ P 246 250 8 249 251 59 252) ::
 (nat_lit 61,mH P "TooLong" 61 60 52 239 247) ::
 (nat_lit 72,wQ P 262 266 10 265 267 71 268) ::
 (nat_lit 73,mH P "NoText" 73 72 64 255 263) ::
 (nat_lit 84,wQ P 278 282 12 281 283 83 284) ::
 (nat_lit 85,mH P "NoEnd" 85 84 76 271 279) ::
 (nat_lit 96,wQ P 294 298 14 297 299 95 300) ::
 (nat_lit 97,mH P "TooMany" 97 96 88 287 295) ::
 (nat_lit 108,wQ P 310 314 16 313 315 107 316) ::
 (nat_lit 109,mH P "NoRow" 109 108 100 303 311) ::
 (nat_lit 120,wQ P 326 330 18 329 331 119 332) ::
 (nat_lit 121,mH P "NoTelling" 121 120 112 319 327) ::
 (nat_lit 132,wQ P 342 346 20 345 347 131 348) ::
 (nat_lit 133,mH P "NoLot" 133 132 124 335 343) ::
 (nat_lit 144,wQ P 358 362 22 361 363 143 364) ::
 (nat_lit 145,mH P "NotOnly" 145 144 136 351 359) ::
 (nat_lit 156,wQ P 374 378 24 377 379 155 380) ::
 (nat_lit 157,mH P "Only" 157 156 148 367 375) ::
 (nat_lit 168,wQ P 390 394 26 393 395 167 396) ::
 (nat_lit 169,mH P "NoShares" 169 168 160 383 391) ::
 (nat_lit 180,wQ P 406 410 28 409 411 179 412) ::
 (nat_lit 181,mH P "NoDeed" 181 180 172 399 407) ::
 (nat_lit 192,wQ P 422 426 30 425 427 191 428) ::
 (nat_lit 193,mH P "NoName" 193 192 184 415 423) ::
 (nat_lit 204,wQ P 438 442 32 441 443 203 444) ::
 (nat_lit 205,mH P "NoDraw" 205 204 196 431 439) ::
 (nat_lit 213,j7 P "plan_from" 451 452 453 36 1 208 209 210 211 212 457 458) ::
 (nat_lit 214,lP P "plan_from" 19 "lotdraw.plans" 447 213) ::
 (nat_lit 220,j7 P "goes_on" 460 461 462 43 2 215 216 217 218 219 466 467) ::
 (nat_lit 221,lP P "goes_on" 20 "lotdraw.plans" 447 220) ::
 (nat_lit 225,yW P "come_to" 469 470 471 46 1 222 223 224 472 473) ::
 (nat_lit 226,lP P "come_to" 21 "lotdraw.plans" 447 225) ::
 (nat_lit 230,yW P "ends" 475 476 477 51 1 227 228 229 478 479) ::
 (nat_lit 231,lP P "ends" 22 "lotdraw.plans" 447 230) ::
 (nat_lit 235,yW P "drawn_on" 481 482 483 53 1 232 233 234 484 485) ::
 (nat_lit 236,lP P "drawn_on" 23 "lotdraw.plans" 447 235) ::
 (nat_lit 242,j7 P "check_ends" 487 488 489 58 2 237 238 239 240 241 494 495) ::
 (nat_lit 243,lP P "check_ends" 24 "lotdraw.plans" 447 242) ::
 (nat_lit 247,yW P "plan_while" 497 498 499 63 1 244 245 246 500 501) ::
 (nat_lit 248,lP P "plan_while" 25 "lotdraw.plans" 447 247) ::
 (nat_lit 252,yW P "led_to" 503 504 505 75 1 249 250 251 506 507) ::
 (nat_lit 253,lP P "led_to" 26 "lotdraw.plans" 447 252) ::
 (nat_lit 259,j7 P "after" 509 510 511 77 2 254 255 256 257 258 514 515) ::
 (nat_lit 260,lP P "after" 27 "lotdraw.plans" 447 259) ::
 (nat_lit 264,yW P "cut_short" 525 526 527 85 2 261 262 263 528 529) ::
 (nat_lit 265,lP P "cut_short" 32 "lotdraw.shorter" 517 264) ::
 (nat_lit 271,j7 P "answers_at" 531 532 533 90 2 266 267 268 269 270 540 541) ::
 (nat_lit 272,lP P "answers_at" 33 "lotdraw.shorter" 517 271) ::
 (nat_lit 278,j7 P "_law_cell" 545 546 547 99 2 273 274 275 276 277 550 551) ::
 (nat_lit 279,lP P "_law_cell" 35 "law_lotdraw_k52_cut_short_same_odds" 543 278) ::
 (nat_lit 285,j7 P "_law_digits" 553 554 555 103 3 280 281 282 283 284 561 562) ::
 (nat_lit 286,lP P "_law_digits" 36 "law_lotdraw_k52_cut_short_same_odds" 543 285) ::
 (nat_lit 292,j7 P "_law_mixes" 564 565 566 109 3 287 288 289 290 291 573 574) ::
 (nat_lit 293,lP P "_law_mixes" 37 "law_lotdraw_k52_cut_short_same_odds" 543 292) ::
 (nat_lit 297,yW P "_law_plan" 576 577 578 115 2 294 295 296 579 580) ::
 (nat_lit 298,lP P "_law_plan" 38 "law_lotdraw_k52_cut_short_same_odds" 543 297) ::
 (nat_lit 304,j7 P "_law_most" 582 583 584 133 1 299 300 301 302 303 586 587) ::
 (nat_lit 305,lP P "_law_most" 39 "law_lotdraw_k52_cut_short_same_odds" 543 304) ::
 (nat_lit 309,yW P "_law_ends" 589 590 591 137 1 306 307 308 592 593) ::
 (nat_lit 310,lP P "_law_ends" 40 "law_lotdraw_k52_cut_short_same_odds" 543 309) ::
 (nat_lit 316,j7 P "_law_ways" 595 596 597 146 1 311 312 313 314 315 605 606) ::
 (nat_lit 317,lP P "_law_ways" 41 "law_lotdraw_k52_cut_short_same_odds" 543 316) ::
 (nat_lit 321,yW P "_law_power" 608 609 610 154 2 318 319 320 611 612) ::
 (nat_lit 322,lP P "_law_power" 42 "law_lotdraw_k52_cut_short_same_odds" 543 321) ::
 (nat_lit 326,yW P "_law_added" 614 615 616 159 3 323 324 325 617 618) ::
 (nat_lit 327,lP P "_law_added" 43 "law_lotdraw_k52_cut_short_same_odds" 543 326) ::
 (nat_lit 331,yW P "_law_word" 620 621 622 165 1 328 329 330 623 624) ::
 (nat_lit 332,lP P "_law_word" 44 "law_lotdraw_k52_cut_short_same_odds" 543 331) ::
 (nat_lit 336,yW P "_law_rule" 626 627 628 175 2 333 334 335 629 630) ::
 (nat_lit 337,lP P "_law_rule" 45 "law_lotdraw_k52_cut_short_same_odds" 543 336) ::
 (nat_lit 343,j7 P "_law_bits" 632 633 634 184 1 338 339 340 341 342 637 638) ::
 (nat_lit 344,lP P "_law_bits" 46 "law_lotdraw_k52_cut_short_same_odds" 543 343) ::
 (nat_lit 348,yW P "_law_is_plan" 640 641 642 189 2 345 346 347 643 644) ::
 (nat_lit 349,lP P "_law_is_plan" 47 "law_lotdraw_k52_cut_short_same_odds" 543 348) ::
 (nat_lit 355,j7 P "_law_odds" 646 647 648 202 2 350 351 352 353 354 654 655) ::
 (nat_lit 356,lP P "_law_odds" 48 "law_lotdraw_k52_cut_short_same_odds" 543 355) ::
 (nat_lit 360,yW P "_law_right" 657 658 659 209 2 357 358 359 660 661) ::
 (nat_lit 361,lP P "_law_right" 49 "law_lotdraw_k52_cut_short_same_odds" 543 360) ::
 (nat_lit 367,j7 P "_law_refused" 663 664 665 219 2 362 363 364 365 366 669 670) ::
 (nat_lit 368,lP P "_law_refused" 50 "law_lotdraw_k52_cut_short_same_odds" 543 367) ::
 (nat_lit 374,j7 P "law" 672 673 674 225 1 369 370 371 372 373 682 683) ::
 (nat_lit 375,lP P "law" 51 "law_lotdraw_k52_cut_short_same_odds" 543 374) ::
 []
def LA:List Addr:=[2,3,23,24,25,36,37,48,49,60,61,72,73,84,85,96,97,108,109,120,121,132,133,144,145,156,157,168,169,180,181,192,193,204,205,213,214,220,221,225,226,230,231,235,236,242,243,247,248,252,253,259,260,264,265,271,272,278,279,285,286,292,293,297,298,304,305,309,310,316,317,321,322,326,327,331,332,336,337,343,344,348,349,355,356,360,361,367,368,374,375]
def LB:List Addr:=[209]
set_option maxHeartbeats 0
theorem Bx (P:Params):LA=(Lz P).map (·.1):=by kernel_rfl
theorem EZ (w:World) (os:OsState):(Hd.wO treeTable PySem.Challenge.pw_lotdraw_k52_cut_short_same_odds w 11 (some (.ref 6)) 8656 (Hd.uu w os) (topStub PySem.Challenge.pw_lotdraw_k52_cut_short_same_odds)).map (fun s=>((staticsOk (importedModules PySem.Challenge.pw_lotdraw_k52_cut_short_same_odds.main.body) (boot_heap w.params) s.abs.heap && namesBound PySem.Challenge.pw_lotdraw_k52_cut_short_same_odds s.abs.heap && gensDone s.abs && laidKept (boot_heap w.params) s.abs.heap),(LA.map s.abs.heap.get?,LB.map s.abs.heap.get?)))=some (true,((Lz w.params).map fun p=>some p.2,LB.map fun _=>some (tabObj #[]))):=by kernel_rfl
abbrev Uu:Shared->Bool:=fun s=>xlAt uv [] s && recOk (RowW.records (OpenRow.toRowW (OpenLaw.row PySem.Challenge.rw_lotdraw_k52_cut_short_same_odds))) s
theorem E3 (w:World) (os:OsState):(Hd.wO treeTable PySem.Challenge.pw_lotdraw_k52_cut_short_same_odds w 11 (some (.ref 6)) 8656 (Hd.uu w os) (topStub PySem.Challenge.pw_lotdraw_k52_cut_short_same_odds)).map (fun s=>openSeen uv [] (importedModules PySem.Challenge.pw_lotdraw_k52_cut_short_same_odds.main.body) Uu true s.abs)=some (openGood uv []):=by kernel_rfl
end aK
set_option maxHeartbeats 4000000
namespace L2
open PySem PySem.Spec PyProof.Rows
abbrev Key:=Sum Int Str
def qO:Key->Value->Bool
 | .inl k,v=>Value.isInt k v
 | .inr x,v=>Value.isStrOf x v
def OF (w:World):Key->Int
 | .inl k=>hashInt k
 | .inr x=>hashStr w x
theorem cA:∀ {k:Key} {v:Value},qO k v=true->(∃ i t,k=Sum.inl i /\ v=Value.int i t) \/ (∃ x t,k=Sum.inr x /\ v=Value.str x t)
 | .inl i,v,h=>by
   obtain ⟨t,e⟩:=Value.isInt_shape (k:=i) (v:=v) h
   exact .inl ⟨i,t,rfl,e⟩
 | .inr x,v,h=>by
   obtain ⟨t,e⟩:=Value.isStrOf_shape (x:=x) (v:=v) h
   exact .inr ⟨x,t,rfl,e⟩
theorem zY (i:Int) (t:Tok):qO (.inl i) (.int i t)=true:=by simp [qO,Value.isInt]
theorem zZ (x:Str) (t:Tok):qO (.inr x) (.str x t)=true:=by simp [qO,Value.isStrOf]
theorem Iu (a b:Int):decide ((Sum.inl a:Key)=Sum.inl b)=(a == b):=by
 by_cases e:a=b
 ·subst e; simp
 ·have h:¬ (Sum.inl a:Key)=Sum.inl b:=fun q=>e (Sum.inl.inj q)
  rw [decide_eq_false h]
  exact (beq_eq_false_iff_ne.mpr e).symm
theorem Iv (a b:Str):decide ((Sum.inr a:Key)=Sum.inr b)=decide (a=b):=by
 by_cases e:a=b
 ·subst e; simp
 ·have h:¬ (Sum.inr a:Key)=Sum.inr b:=fun q=>e (Sum.inr.inj q)
  rw [decide_eq_false h,decide_eq_false e]
theorem Iw (a:Int) (b:Str):decide ((Sum.inl a:Key)=Sum.inr b)=false:=decide_eq_false (fun q=>nomatch q)
theorem Iy (a:Str) (b:Int):decide ((Sum.inr a:Key)=Sum.inl b)=false:=decide_eq_false (fun q=>nomatch q)
def cP (prog:Program) (w:World):PySem.KeyKind prog w Key where
 is:=qO
 hash:=OF w
 inj:=fun v a b ha hb=>by
  rcases cA ha with ⟨i,t,rfl,rfl⟩ | ⟨x,t,rfl,rfl⟩
  ·rcases cA hb with ⟨j,u,rfl,e⟩ | ⟨y,u,rfl,e⟩
   ·injection e with e1 _; rw [e1]
   ·exact nomatch e
  ·rcases cA hb with ⟨j,u,rfl,e⟩ | ⟨y,u,rfl,e⟩
   ·exact nomatch e
   ·injection e with e1 _; rw [e1]
 byValue:=fun k v h=>by
  rcases cA h with ⟨i,t,rfl,rfl⟩ | ⟨x,t,rfl,rfl⟩ <;> rfl
 pyHash:=fun hv h=>by
  rcases cA hv with ⟨i,t,rfl,rfl⟩ | ⟨x,t,rfl,rfl⟩
  ·exact wpAny_pyHash_int h
  ·exact wpAny_pyHash_str h
 eqBool:=fun hu hv h=>by
  rcases cA hu with ⟨i,t,rfl,rfl⟩ | ⟨x,t,rfl,rfl⟩
  ·rcases cA hv with ⟨j,u,rfl,rfl⟩ | ⟨y,u,rfl,rfl⟩
   ·rw [Iu] at h; exact wpAny_eqBool_int h
   ·rw [Iw] at h; exact SeqAt.EqAt.int_str i t y u _ _ _ _ h
  ·rcases cA hv with ⟨j,u,rfl,rfl⟩ | ⟨y,u,rfl,rfl⟩
   ·rw [Iy] at h; exact SeqAt.EqAt.str_int x t j u _ _ _ _ h
   ·rw [Iv] at h; exact wpAny_eqBool_str h
 «strs»:=fun k x t v h=>by
  rcases cA h with ⟨i,u,rfl,e⟩ | ⟨y,u,rfl,e⟩
  ·exact nomatch e
  ·injection e with e1 _
   subst e1
   cases v <;> rfl
theorem uw (prog:Program) (w:World) (i:Int) (t:Tok):(cP prog w).is (.inl i) (.int i t)=true:=zY i t
theorem ux (prog:Program) (w:World) (x:Str) (t:Tok):(cP prog w).is (.inr x) (.str x t)=true:=zZ x t
inductive V where
 | gM | bl (b:Bool) | int (i:Int) | str (x:Str) | LC (b:Array UInt8) | EM (b:UInt64) | ref (a:Addr) | ty (n:String)
 deriving DecidableEq
def RelV:V->Value->Prop
 | .gM,u=>u=Value.none
 | .bl b,u=>u=Value.bool b
 | .int i,u=>∃ t,u=Value.int i t
 | .str x,u=>∃ t,u=Value.str x t
 | .LC b,u=>∃ t,u=Value.bytes b t
 | .EM b,u=>∃ t,u=Value.float b t
 | .ref a,u=>u=Value.ref a
 | .ty n,u=>u=Value.type n
abbrev a4:List V->List Value->Prop:=Paired RelV
theorem a4.length {xs:List V} {us:List Value} (r:a4 xs us):xs.length=us.length:=Paired.length r
theorem a4.get:∀ {xs:List V} {us:List Value} {i:Nat} {x:V},a4 xs us->xs[i]?=some x->∃ u,us[i]?=some u /\ RelV x u
 | _,_,_,_,.nil,e=>by simp at e
 | _,_,0,_,.cons r _,e=>by simp at e; subst e; exact ⟨_,rfl,r⟩
 | _,_,i + 1,x,.cons _ t,e=>by
   obtain ⟨u,h1,h2⟩:=a4.get (i:=i) (x:=x) t (by simpa using e)
   exact ⟨u,by simpa using h1,h2⟩
theorem a4.append:∀ {xs ys:List V} {us ws:List Value},a4 xs us->a4 ys ws->a4 (xs ++ ys) (us ++ ws)
 | _,_,_,_,.nil,s=>s
 | _,_,_,_,.cons r t,s=>.cons r (a4.append t s)
theorem a4.take:∀ {xs:List V} {us:List Value} (n:Nat),a4 xs us->a4 (xs.take n) (us.take n)
 | _,_,0,_=>.nil
 | _,_,_ + 1,.nil=>.nil
 | _,_,n + 1,.cons r t=>.cons r (a4.take n t)
theorem a4.drop:∀ {xs:List V} {us:List Value} (n:Nat),a4 xs us->a4 (xs.drop n) (us.drop n)
 | _,_,0,r=>r
 | _,_,_ + 1,.nil=>.nil
 | _,_,n + 1,.cons _ t=>a4.drop n t
def mI:Option V->Option Value->Prop
 | some v,some u=>RelV v u
 | none,none=>True
 | _,_=>False
def KV {κ:Type}:List (κ×V)->List (κ×Value)->Prop:=Paired fun (p:κ×V) (q:κ×Value)=>p.1=q.1 /\ RelV p.2 q.2
def kV:Key->V
 | .inl i=>.int i
 | .inr x=>.str x
inductive HO where
  | lst (xs:List V)
  | tup (xs:List V)
  | dK (aF:List (Key×V)) | dT (aF:List (List Key×V))
  | set (S:Int->Bool) (n:Nat)
  | ins (C dx:Addr) (fs:List (Str×V))
  | own (x:Addr)
  | xd (fs:List (Str×V))
  | met (f x:Addr)
  | NS (lo hi:Int)
  | n6 (o:Obj) (u:HO)
  | Ho (ps:Array Value)
 | lam (p:Pos) (q:Str) | code (q:Str)
   | ext (φ:Heap->Prop)
abbrev Hp:=Addr->Option HO
def upd (H:Hp) (a:Addr) (o:HO):Hp:=fun b=>if b=a then some o else H b
theorem aZ {H:Hp} {a:Addr} {o:HO}:upd H a o a=some o:=by unfold upd; rw [if_pos rfl]
theorem aB {H:Hp} {a b:Addr} {o:HO} (h:b≠a):upd H a o b=H b:=by unfold upd; rw [if_neg h]
theorem aP {H:Hp} {a b:Addr} {o:HO} (h:H a=some o) (h':H b=none):a≠b:=by
 intro e; subst e; rw [h] at h'; cases h'
def de (H:Hp) (b:Addr) (xs:List V):Prop:=H b=some (.tup xs) \/ ∃ ob,H b=some (.n6 ob (.tup xs))
theorem de.ne {H:Hp} {a b:Addr} {o:HO} {xs:List V} (t:de H b xs) (n:b≠a):de (upd H a o) b xs:=by
 rcases t with t | ⟨ob,t⟩
 ·exact .inl (by rw [aB n]; exact t)
 ·exact .inr ⟨ob,by rw [aB n]; exact t⟩
theorem de.new {H:Hp} {a b:Addr} {o:HO} {xs:List V} (t:de H b xs) (n:H a=none):de (upd H a o) b xs:=t.ne fun z=>by
 subst z
 rcases t with t | ⟨ob,t⟩ <;> rw [n] at t <;> cases t
theorem de.dT {H:Hp} {a b:Addr} {o:HO} {xs:List V} {aF:List (List Key×V)} (t:de H b xs) (e:H a=some (.dT aF)):de (upd H a o) b xs:=t.ne fun z=>by
 subst z
 rcases t with t | ⟨ob,t⟩ <;> rw [e] at t <;> cases t
section
variable (P:Program) (w:World)
def bN (H:Hp) (h:Heap) (a:Addr):HO->Prop
 | .lst xs=>xs.length<=sizeLine /\ ∃ (its:List Value) (n:Nat),a4 xs its /\ h.get? a=some { cls:=.type "list",data:=.seq its.toArray n }
 | .tup xs=>xs.length<=sizeLine /\ ∃ its:List Value,a4 xs its /\ IsTup h a its.toArray
 | .dK aF=>aF.length<=sizeLine /\ (a == sysModules)=false /\ ∃ vs,KV aF vs /\ h.DictOf (cP P w) a vs
 | .dT aF=>aF.length<=sizeLine /\ (a == sysModules)=false /\ ∃ xs:List (List Key×Addr×Value),
   Paired (fun (p:List Key×V) (q:List Key×Addr×Value)=>p.1=q.1 /\ de H q.2.1 (p.1.map kV) /\ RelV p.2 q.2.2) aF xs /\
   ∃ o es ep,h.get? a=some o /\ o.ExactDict /\ o.data=.dict es ep /\ es.toList=xs.map (entryOfKey (tupleKind (cP P w))) /\ (xs.map (·.1)).Nodup
 | .set S n=>h.SetOf (intKind P w) a S n
 | .ins C dx fs=>H dx=some (.own a) /\ fs.length<=1000 /\ dx≠a /\ h.get? a=some (PySem.W.instObj C dx) /\
   ∃ mA,h.Ns1 dx mA /\ (∀ f,mI (fs.lookup f) (mA f)) /\ PySem.Within mA (fs.map (·.1))
 | .own _=>∃ o,h.get? a=some o
 | .xd fs=>∃ mA,h.Ns1 a mA /\ ∀ f,mI (fs.lookup f) (mA f)
 | .NS lo hi=>∃ t u v,h.get? a=some { cls:=.type "range",data:=.fields #[.int lo t,.int hi u,.int 1 v] }
 | .n6 o u=>h.get? a=some o /\ bN H h a u
 | .Ho ps=>h.get? a=some { cls:=.none,data:=.fields ps }
 | .lam p q=>∃ ps:Array Value,h.get? a=some (PySem.W.tabObj ps) /\ TriplesOk ps.toList /\ (codeAmong p ps.toList=none \/ ∃ c,codeAmong p ps.toList=some (.ref c) /\ H c=some (.code q))
 | .code q=>h.CodeRec (.ref a) q
 | .met f x=>h.get? a=some (PySem.W.methodObj (.ref f) (.ref x))
 | .ext φ=>φ h /\ (∃ o,h.get? a=some o) /\ ∀ h1 h2:Heap,φ h1->(∀ o,h1.get? a=some o->h2.get? a=some o)->φ h2
def j8 (H:Hp) (h:Heap):Prop:=∀ a o,H a=some o->bN P w H h a o
end
section
variable {P:Program} {w:World} {H H':Hp} {h h':Heap} {a:Addr} {o:HO}
theorem bN.lt (x:bN P w H h a o):a < h.objs.size:=by
 cases o with
 | lst xs=>obtain ⟨_,_,_,_,e⟩:=x; exact Heap.lt_size e
 | tup xs=>obtain ⟨_,_,_,p⟩:=x; exact p.lt
 | dK aF=>obtain ⟨_,_,_,_,o,_,_,e,_⟩:=x; exact Heap.lt_size e
 | dT aF=>obtain ⟨_,_,_,_,o,_,_,e,_⟩:=x; exact Heap.lt_size e
 | set S n=>obtain ⟨o,_,_,_,e,_⟩:=x; exact Heap.lt_size e
 | ins C dx fs=>obtain ⟨_,_,_,e,_⟩:=x; exact Heap.lt_size e
 | own y=>obtain ⟨_,e⟩:=x; exact Heap.lt_size e
 | xd fs=>obtain ⟨_,⟨_,_,_,e,_⟩,_⟩:=x; exact Heap.lt_size e
 | NS lo hi=>obtain ⟨_,_,_,e⟩:=x; exact Heap.lt_size e
 | n6 ob u=>obtain ⟨e,_⟩:=x; exact Heap.lt_size e
 | Ho ps=>exact Heap.lt_size (show h.get? a=some _ from x)
 | lam p q=>obtain ⟨_,e,_⟩:=x; exact Heap.lt_size e
 | code q=>obtain ⟨_,_,_,_,z,e,_⟩:=x; cases z; exact Heap.lt_size e
 | met f y=>exact Heap.lt_size (show h.get? a=some _ from x)
 | ext φ=>obtain ⟨_,⟨_,e⟩,_⟩:=x; exact Heap.lt_size e
theorem Paired.E4 {α β:Type} {F G:α->β->Prop}:∀ {By:List α} {Bz:List β},Paired F By Bz->(∀ a b,F a b->G a b)->Paired G By Bz
 | _,_,.nil,_=>.nil
 | _,_,.cons r t,f=>.cons (f _ _ r) (Paired.E4 t f)
theorem Paired.imp' {α β:Type} {F G:α->β->Prop} (f:∀ a b,F a b->G a b) {By:List α} {Bz:List β} (r:Paired F By Bz):Paired G By Bz:=Paired.E4 r f
theorem bN.mJ (x:bN P w H h a o) (k:∀ b u,(b=a \/ H b=some (.own a))->h.get? b=some u->h'.get? b=some u)
  (ho:∀ b,H b=some (.own a)->H' b=some (.own a)) (ht:∀ b xs,de H b xs->de H' b xs) (hc:∀ b q,H b=some (.code q)->H' b=some (.code q):=by first | exact fun _ _ z=>z | (intro c y z; rw [aB (aP z (by assumption))]; exact z)):bN P w H' h' a o:=by
 induction o with
 | lst xs=>obtain ⟨z,its,n,r,e⟩:=x; exact ⟨z,its,n,r,k _ _ (.inl rfl) e⟩
 | tup xs=>obtain ⟨z,its,r,ob,e,c⟩:=x; exact ⟨z,its,r,ob,k _ _ (.inl rfl) e,c⟩
 | dK aF=>obtain ⟨z,y,vs,r,ob,es,ep,e,c⟩:=x; exact ⟨z,y,vs,r,ob,es,ep,k _ _ (.inl rfl) e,c⟩
 | dT aF=>
   obtain ⟨z,y,xs,r,ob,es,ep,e,c⟩:=x
   exact ⟨z,y,xs,Paired.E4 r fun p q z=>⟨z.1,ht _ _ z.2.1,z.2.2⟩,ob,es,ep,k _ _ (.inl rfl) e,c⟩
 | set S n=>obtain ⟨ob,es,ep,t,e,c⟩:=x; exact ⟨ob,es,ep,t,k _ _ (.inl rfl) e,c⟩
 | ins C dx fs=>
   obtain ⟨d,z,ne,e,mA,⟨od,es,ep,e2,c⟩,r⟩:=x
   exact ⟨ho _ d,z,ne,k _ _ (.inl rfl) e,mA,⟨od,es,ep,k _ _ (.inr d) e2,c⟩,r⟩
 | own y=>obtain ⟨ob,e⟩:=x; exact ⟨ob,k _ _ (.inl rfl) e⟩
 | xd fs=>obtain ⟨mA,⟨od,es,ep,e,c⟩,r⟩:=x; exact ⟨mA,⟨od,es,ep,k _ _ (.inl rfl) e,c⟩,r⟩
 | NS lo hi=>obtain ⟨t,u,v,e⟩:=x; exact ⟨t,u,v,k _ _ (.inl rfl) e⟩
 | n6 ob u ih=>obtain ⟨e,q⟩:=x; exact ⟨k _ _ (.inl rfl) e,ih q⟩
 | lam p q=>obtain ⟨ps,e,t,r⟩:=x; exact ⟨ps,k _ _ (.inl rfl) e,t,r.imp id fun ⟨c,e1,e2⟩=>⟨c,e1,hc c q e2⟩⟩
 | code q=>obtain ⟨c,o,vs,t,z,e,r⟩:=x; cases z; exact ⟨_,o,vs,t,rfl,k _ _ (.inl rfl) e,r⟩
 | Ho ps=>
   have e:h.get? a=some { cls:=.none,data:=.fields ps }:=x
   show h'.get? a=some { cls:=.none,data:=.fields ps }
   exact k a _ (.inl rfl) e
 | met f y=>
   have e:h.get? a=some (PySem.W.methodObj (.ref f) (.ref y)):=x
   show h'.get? a=some (PySem.W.methodObj (.ref f) (.ref y))
   exact k a _ (.inl rfl) e
 | ext φ=>obtain ⟨p,⟨o,e⟩,st⟩:=x; exact ⟨st _ _ p fun o q=>k _ _ (.inl rfl) q,⟨o,k _ _ (.inl rfl) e⟩,st⟩
theorem j8.lt (x:j8 P w H h) (e:H a=some o):a < h.objs.size:=(x a o e).lt
theorem j8.fresh (x:j8 P w H h) (e:h.objs.size<=a):H a=none:=by
 cases q:H a with
 | none=>rfl
 | some u=>exact absurd (Nat.lt_of_lt_of_le (x.lt q) e) (Nat.lt_irrefl _)
theorem j8.kept (x:j8 P w H h) (k:∀ b u,h.get? b=some u->h'.get? b=some u):j8 P w H h':=fun a o e=>
 (x a o e).mJ (fun b u _ q=>k b u q) (fun _ q=>q) (fun _ _ q=>q) fun _ _ q=>q
theorem j8.laid (x:j8 P w H h) (k:∀ b u,h.get? b=some u->h'.get? b=some u) (hp:h.objs.size<=a) (new:bN P w (upd H a o) h' a o):j8 P w (upd H a o) h':=fun b u e=>by
 have hn:=x.fresh hp
 by_cases hb:b=a
 ·subst hb; rw [aZ] at e; cases e; exact new
 ·rw [aB hb] at e
  exact (x b u e).mJ (fun c v _ q=>k c v q) (fun c q=>by rw [aB (aP q hn)]; exact q) (fun c xs q=>q.new hn) fun c _ q=>by rw [aB (aP q hn)]; exact q
end
def Rd (H:Hp) (a:Addr) (u:HO):Prop:=H a=some u \/ ∃ o,H a=some (.n6 o u)
theorem Rd.ok {P:Program} {w:World} {H:Hp} {h:Heap} {a:Addr} {u:HO} (r:Rd H a u) (x:j8 P w H h):bN P w H h a u:=by
 rcases r with r | ⟨o,r⟩
 ·exact x a u r
 ·obtain ⟨_,q⟩:=x a _ r
  exact q
def LD:Option HO->Prop
 | some (.lst _)=>True
 | some (.dK _)=>True
 | some (.dT _)=>True
 | some (.set _ _)=>True
 | some (.ins _ _ _)=>True
 | some (.ext _)=>True
 | _=>False
section
variable {P:Program} {w:World} {H:Hp} {h h':Heap} {x e:Addr} {o':HO}
theorem j8.write (ok:j8 P w H h) (mu:LD (H x)) (he:e=x \/ H e=some (.own x)) (k:∀ b u,b≠e->h.get? b=some u->h'.get? b=some u) (z0:∃ u,h'.get? e=some u)
  (new:bN P w (upd H x o') h' x o'):j8 P w (upd H x o') h':=fun b u q=>by
 have LF:∀ c y,H c=some (.own y)->c≠x:=fun c y r z=>by subst z; rw [r] at mu; exact mu
 have VO:∀ c xs,H c=some (.tup xs)->c≠x:=fun c xs r z=>by subst z; rw [r] at mu; exact mu
 by_cases hb:b=x
 ·subst hb; rw [aZ] at q; cases q; exact new
 ·rw [aB hb] at q
  by_cases Iz:b=e
  ·have q':H b=some (.own x):=by
    rcases he with z | z
    ·exact absurd (Iz.trans z) hb
    ·rw [Iz]; exact z
   rw [q] at q'; cases q'
   obtain ⟨v,hv⟩:=z0
   exact ⟨v,by rw [Iz]; exact hv⟩
  ·refine (ok b u q).mJ (fun c v hc r=>k c v ?_ r) (fun c r=>by rw [aB (LF c b r)]; exact r) (fun c xs r=>r.ne fun z=>by
    subst z
    rcases r with r | ⟨ob,r⟩ <;> rw [r] at mu <;> exact mu) fun c y r=>by rw [aB fun z=>by subst z; rw [r] at mu; exact mu]; exact r
   rcases hc with rfl | hc
   ·exact Iz
   ·rintro rfl
    rcases he with z | z
    ·exact LF c b hc z
    ·rw [hc] at z; cases z; exact hb rfl
end
structure Un (fs ex:List Addr) (H H':Hp) (h h':Heap):Prop where
 keep:∀ b o,h.get? b=some o->H b=none->b∉fs->b∉ex->h'.get? b=some o
 slot:∀ b o,h.get? b=some o->H b=none->b∈fs->b∉ex->∃ sl,h'.get? b=some { o with slots:=sl }
 free:∀ b o,h.get? b=some o->H b=none->b∉ex->H' b=none
 there:∀ b o,h.get? b=some o->b∉ex->∃ o',h'.get? b=some o'
 mK:∀ b xs,H b=some (.tup xs)->H' b=some (.tup xs)
 lR:∀ b o u,H b=some (.n6 o u)->H' b=some (.n6 o u)
 mM:∀ b ps,H b=some (.Ho ps)->∃ more,H' b=some (.Ho (ps ++ more))
section
variable {fs VP ex Z1:List Addr} {H H1 H2:Hp} {h h1 h2 h':Heap} {a x e:Addr} {o:HO}
theorem Un.any (u:Un fs ex H H1 h h1) {b:Addr} {ob:Obj} (q:h.get? b=some ob) (n:H b=none) (hx:b∉ex):∃ sl,h1.get? b=some { ob with slots:=sl }:=by
 by_cases hb:b∈fs
 ·exact u.slot b ob q n hb hx
 ·exact ⟨ob.slots,u.keep b ob q n hb hx⟩
theorem Un.kept (k:∀ b u,h.get? b=some u->h'.get? b=some u):Un fs ex H H h h':=
 ⟨fun b ob q _ _ _=>k b ob q,fun b ob q _ _ _=>⟨ob.slots,k b ob q⟩,fun _ _ _ n _=>n,fun b ob q _=>⟨ob,k b ob q⟩,fun _ _ q=>q,fun _ _ _ q=>q,fun _ ps q=>⟨#[],by rw [q]; simp⟩⟩
theorem Un.refl:Un fs ex H H h h:=Un.kept fun _ _ q=>q
theorem Un.laid (k:∀ b u,h.get? b=some u->h'.get? b=some u) (hp:h.objs.size<=a) (hn:H a=none):Un fs ex H (upd H a o) h h' where
 keep:=fun b u q _ _ _=>k b u q
 slot:=fun b u q _ _ _=>⟨u.slots,k b u q⟩
 free:=fun b u q n _=>by rw [aB (Nat.ne_of_lt (Nat.lt_of_lt_of_le (Heap.lt_size q) hp))]; exact n
 there:=fun b u q _=>⟨u,k b u q⟩
 mK:=fun b xs q=>by rw [aB (aP q hn)]; exact q
 lR:=fun b u xs q=>by rw [aB (aP q hn)]; exact q
 mM:=fun b ps q=>⟨#[],by rw [aB (aP q hn),q]; simp⟩
theorem Un.write (mu:LD (H x)) (he:e=x \/ H e=some (.own x)) (k:∀ b u,b≠e->h.get? b=some u->h'.get? b=some u) (z0:∃ u,h'.get? e=some u):Un fs ex H (upd H x o) h h':=by
 have hx:∀ b,H b=none->b≠x:=fun b n z=>by subst z; rw [n] at mu; exact mu
 have hb:∀ b,H b=none->b≠e:=fun b n z=>by
  subst z
  rcases he with r | r
  ·exact hx b n r
  ·rw [n] at r; cases r
 have hm:∀ b u,H b=some u->¬ LD (some u)->b≠x:=fun b u q nm z=>by subst z; rw [q] at mu; exact nm mu
 refine ⟨fun b u q n _ _=>k b u (hb b n) q,fun b u q n _ _=>⟨u.slots,k b u (hb b n) q⟩,fun b u q n _=>by rw [aB (hx b n)]; exact n,fun b u q _=>?_,
  fun b xs q=>by rw [aB (hm b _ q fun z=>z)]; exact q,fun b u xs q=>by rw [aB (hm b _ q fun z=>z)]; exact q,fun b ps q=>⟨#[],by rw [aB (hm b _ q fun z=>z),q]; simp⟩⟩
 by_cases Iz:b=e
 ·subst Iz; exact z0
 ·exact ⟨u,k b u Iz q⟩
end
def NT (h:Heap) (H:Hp):List Addr:=(List.range h.objs.size).filter fun a=>(H a).isSome
def qg (h:Heap) (H:Hp):Heap:=PySem.W.hideAll h (NT h H)
theorem qP (h:Heap) (H:Hp):(qg h H).objs.size=h.objs.size:=PySem.W.hideAll_size _ _
theorem lS {h:Heap} {H:Hp} {b:Addr} {o:Obj} (e:h.get? b=some o) (n:H b=none):(qg h H).get? b=some o:=
 PySem.W.hideAll_get _ e fun hm=>by
  have q:(H b).isSome=true:=(List.mem_filter.mp hm).2
  rw [n] at q; simp at q
theorem yX {h:Heap} {H:Hp} {b:Addr} {o:Obj} (e:(qg h H).get? b=some o):h.get? b=some o /\ H b=none:=by
 have e':h.get? b=some o:=PySem.W.of_hideAll (NT h H) e
 refine ⟨e',?_⟩
 cases q:H b with
 | none=>rfl
 | some x=>
   have hm:b∈NT h H:=List.mem_filter.mpr ⟨List.mem_range.mpr (Heap.lt_size e'),by simp [q]⟩
   have z:(qg h H).get? b=none:=PySem.W.hideAll_none (NT h H) hm
   rw [z] at e; cases e
def E5 (g h:Heap) (L:Addr):List (Addr×Obj):=(List.range h.objs.size).filterMap fun a=>if a=L \/ (g.get? a).isSome=true then none else (h.get? a).map fun o=>(a,o)
def rest (g h:Heap) (L d:Addr):List (Addr×Obj):=(E5 g h L).filter fun p=>decide (p.1≠d)
structure Mod (K:PySem.W.Frag) (mg:Str->Option Value) (base:Heap):Prop where
 Hq:K.In base
 glob:base.Ns mainGlobals mg
 blt:∃ mb,base.Ns builtinsNs mb /\ ∀ x:Str,x≠"__name__"->mb x=bootBuiltins x
 nolimit:base.NoLimit
structure Cx where
 prog:Program
 w:World
 K:PySem.W.Frag
 mg:Str->Option Value
 base:Heap
 A:Around
 N:List Str
 fm:Shared
 z4:Hp
 env:Env
 outer:List Env
 stack:List Env
 ex:List Addr
 fn:Str->Bool
 calm:Bool
 pn:List (Addr×Obj)
 xe:Value->Shared->Prop
def j5 (l:List Env):List Addr:=l.filterMap (·.frame)
abbrev Cx.fs (X:Cx):List Addr:=j5 X.outer
def K8 (sc:Scope) (x:Str):Prop:=sc.names.lookup x=some .local \/ sc.names.lookup x=some .cell \/ sc.names.lookup x=some .free
def Loc (sc:Scope) (x:Str):Prop:=sc.names.lookup x=some .local \/ sc.names.lookup x=some .cell
def Look (env:Env) (h:Heap) (m:Str->Option Value) (x:Str) (u:Value):Prop:=
 (env.kindOf x=some .local /\ m x=some u) \/ ((env.kindOf x=some .cell \/ env.kindOf x=some .free) /\ ∃ c,env.cells.lookup x=some c /\ h.IsCell c (some u))
structure Cx.Ok (X:Cx):Prop where
 mod:Mod X.K X.mg X.base
 kind:X.env.scope.kind=.function
 glob:X.env.globals=mainGlobals
 blt:X.env.builtins=builtinsNs
 above:X.fm.heap.objs.size<=X.env.locals
 inj:∀ x y c,X.env.cells.lookup x=some c->X.env.cells.lookup y=some c->x=y
 has:∀ x,(X.env.kindOf x=some .cell \/ X.env.kindOf x=some .free)->∃ c,X.env.cells.lookup x=some c
 BA:∀ x c,X.fn x=true->X.env.cells.lookup x=some c->X.fm.heap.objs.size<=c
 hd:X.calm=true->X.A.handled=none
 frames:X.A.frames=some X.stack
 E6:X.stack=X.outer \/ (X.stack=X.env :: X.outer /\ X.env.frame=some X.env.locals)
 IA:∀ b∈X.ex,b≠X.env.locals /\ ∀ x c,X.env.cells.lookup x=some c->c≠b
 bs:∀ b o,X.base.get? b=some o->X.fm.heap.get? b=some o /\ X.z4 b=none
 yY:X.base.objs.size<=X.fm.heap.objs.size
 qh:∀ b o,X.base.get? b=some o->b∉X.ex
 rR:∀ b∈X.ex,b∉X.fs
 ig:X.fm.heap.FunFrames X.base X.outer
 wR:∀ b∈X.fs,X.z4 b=none
structure Inv (X:Cx) (pins:List (Addr×Obj)) (σ:List (Option V)) (H:Hp) (s:Shared):Prop where
 ok:X.Ok
 os:s.os=X.fm.os
 bare:AllBare s.gens
 base:Un X.fs X.ex X.z4 H X.fm.heap s.heap
 loc:∃ m,s.heap.Ns X.env.locals m /\ ∀ (i:Nat) (x:Str) (v:V),X.N[i]?=some x->σ[i]?=some (some v)->K8 X.env.scope x->∃ u,RelV v u /\ Look X.env s.heap m x u
 cell:∀ x c,X.env.cells.lookup x=some c->∃ v,s.heap.IsCell c v
 free:H X.env.locals=none
 fq:∀ x c,X.env.cells.lookup x=some c->H c=none
 pin:∀ p∈X.pn ++ pins,s.heap.get? p.1=some p.2 /\ H p.1=none /\ p.1≠X.env.locals /\ p.1∉X.fs /\ ∀ v,p.2.data≠.cell v
 be:j8 X.prog X.w H s.heap
 len:σ.length=X.N.length
section
variable {X:Cx} {pins:List (Addr×Obj)} {σ:List (Option V)} {H H':Hp} {s:Shared} {h':Heap}
theorem Cx.Ok.IB (ok:X.Ok) {b:Addr} {o:Obj} (e:X.base.get? b=some o):b∉X.fs:=fun hb=>by
 have:=(ok.ig.mem hb).1
 rw [e] at this; cases this
theorem Inv.bs (I:Inv X pins σ H s):∀ b o,X.base.get? b=some o->s.heap.get? b=some o /\ H b=none:=fun b o e=>
 ⟨I.base.keep b o (I.ok.bs b o e).1 (I.ok.bs b o e).2 (I.ok.IB e) (I.ok.qh b o e),I.base.free b o (I.ok.bs b o e).1 (I.ok.bs b o e).2 (I.ok.qh b o e)⟩
theorem Inv.bk (I:Inv X pins σ H s):∀ b o,X.base.get? b=some o->s.heap.get? b=some o:=fun b o e=>(I.bs b o e).1
theorem Inv.mod (I:Inv X pins σ H s):Mod X.K X.mg X.base:=I.ok.mod
theorem Inv.kU (I:Inv X pins σ H s):X.K.In s.heap:=I.ok.mod.Hq.keeps I.bk
theorem Inv.lt (I:Inv X pins σ H s):X.env.locals < s.heap.objs.size:=let ⟨_,hn,_⟩:=I.loc; hn.lt
theorem Inv.sz (I:Inv X pins σ H s):X.fm.heap.objs.size<=s.heap.objs.size:=Nat.le_trans I.ok.above (Nat.le_of_lt I.lt)
theorem Inv.LG (I:Inv X pins σ H s) {a:Addr} (h:s.heap.objs.size<=a):a∉X.fs:=fun hb=>by
 obtain ⟨_,o,ho,_⟩:=I.ok.ig.mem hb
 exact absurd (Nat.lt_of_lt_of_le (Heap.lt_size ho) (Nat.le_trans I.sz h)) (Nat.lt_irrefl _)
theorem Inv.BC (I:Inv X pins σ H s):∀ x c,X.env.cells.lookup x=some c->c≠X.env.locals:=fun x c e z=>by
 obtain ⟨v,o,ho,hd⟩:=I.cell x c e
 obtain ⟨m,⟨o',es,ep,uo,Bl,_⟩,_⟩:=I.loc
 rw [z,uo] at ho; cases ho; rw [Bl] at hd; cases hd
theorem Inv.ig (I:Inv X pins σ H s):s.heap.FunFrames X.base X.outer:=by
 have all:∀ (l:List Env),(∀ b∈j5 l,b∈X.fs)->X.fm.heap.FunFrames X.base l->s.heap.FunFrames X.base l:=by
  intro l
  induction l with
  | nil=>intro _ _; trivial
  | cons env r ih=>
    intro hs hl
    obtain ⟨hk,⟨L,o,hf,hn,ho,hd⟩,hr⟩:=hl
    have hL:L∈X.fs:=hs L (by unfold j5; rw [List.filterMap_cons,hf]; exact List.mem_cons_self)
    obtain ⟨sl,e⟩:=I.base.slot L o ho (I.ok.wR L hL) hL fun z=>I.ok.rR L z hL
    exact ⟨hk,⟨L,_,hf,hn,e,hd⟩,ih (fun b hb=>hs b (by unfold j5; rw [List.filterMap_cons,hf]; exact List.mem_cons_of_mem _ hb)) hr⟩
 exact all X.outer (fun _ hb=>hb) I.ok.ig
theorem Inv.stack (I:Inv X pins σ H s):s.heap.FunFrames X.base X.stack:=by
 rcases I.ok.E6 with e | ⟨e,hf⟩
 ·rw [e]; exact I.ig
 ·rw [e]
  obtain ⟨m,hn,_⟩:=I.loc
  refine .cons (by rw [I.ok.kind]; decide) hf hn ?_ I.ig
  exact Heap.get?_none_of_le (Nat.le_trans I.ok.yY I.ok.above)
theorem Inv.jx (I:Inv X pins σ H s):∀ b∈j5 X.stack,b∈X.env.locals :: X.fs:=fun b hb=>by
 rcases I.ok.E6 with e | ⟨e,hf⟩
 ·rw [e] at hb; exact List.mem_cons_of_mem _ hb
 ·rw [e] at hb
  unfold j5 at hb
  rw [List.filterMap_cons,hf] at hb
  exact hb
theorem Inv.om (I:Inv X pins σ H s):∀ b∈j5 X.stack,H b=none:=fun b hb=>by
 rcases List.mem_cons.mp (I.jx b hb) with e | hb
 ·rw [e]; exact I.free
 ·obtain ⟨_,o,ho,_⟩:=I.ok.ig.mem hb
  exact I.base.free b o ho (I.ok.wR b hb) fun z=>I.ok.rR b z hb
theorem Inv.step {g':Array GenState} {t':Nat} {d':Drawn} {ch:List Addr} (I:Inv X pins σ H s)
  (EN:∀ b∈ch,(b∈X.ex \/ X.fm.heap.objs.size<=b) /\ b≠X.env.locals /\ (∀ x c,X.env.cells.lookup x=some c->c≠b) /\ ∀ p∈X.pn ++ pins,p.1≠b)
  (keep:∀ b o,b≠X.env.locals->b∉X.fs->b∉ch->s.heap.get? b=some o->H b=none->h'.get? b=some o)
  (slot:∀ b o,b≠X.env.locals->b∈X.fs->b∉ch->s.heap.get? b=some o->H b=none->∃ sl,h'.get? b=some { o with slots:=sl }) (free:∀ b o,b∉ch->s.heap.get? b=some o->H b=none->H' b=none)
  (there:∀ b o,b∉ch->s.heap.get? b=some o->∃ o',h'.get? b=some o')
  (mK:∀ b xs,H b=some (.tup xs)->H' b=some (.tup xs)) (lR:∀ b o u,H b=some (.n6 o u)->H' b=some (.n6 o u)) (mM:∀ b ps,H b=some (.Ho ps)->∃ more,H' b=some (.Ho (ps ++ more)))
  (ns:∀ m,s.heap.Ns X.env.locals m->h'.Ns X.env.locals m) (be:j8 X.prog X.w H' h') (hg:AllBare g'):
  Inv X pins σ H' { s with heap:=h',gens:=g',drawn:=d',toks:=t' }:=by
 have Uv:∀ b o,X.fm.heap.get? b=some o->b≠X.env.locals:=fun b o e=>Nat.ne_of_lt (Nat.lt_of_lt_of_le (Heap.lt_size e) I.ok.above)
 have NU:∀ b o,X.fm.heap.get? b=some o->b∉X.ex->b∉ch:=fun b o e hx hb=>by
  rcases (EN b hb).1 with z | z
  ·exact hx z
  ·exact absurd (Nat.lt_of_lt_of_le (Heap.lt_size e) z) (Nat.lt_irrefl _)
 have cellK:∀ x c,X.env.cells.lookup x=some c->∀ v,s.heap.IsCell c v->h'.IsCell c v:=fun x c e v ⟨o,ho,hd⟩=>by
  have LH:c∉ch:=fun z=>(EN c z).2.2.1 x c e rfl
  by_cases hc:c∈X.fs
  ·obtain ⟨sl,q⟩:=slot c o (I.BC x c e) hc LH ho (I.fq x c e)
   exact ⟨_,q,hd⟩
  ·exact ⟨o,keep c o (I.BC x c e) hc LH ho (I.fq x c e),hd⟩
 refine ⟨I.ok,I.os,hg,⟨fun b o e n hb hx=>?_,fun b o e n hb hx=>?_,fun b o e n hx=>?_,fun b o e hx=>?_,fun b xs e=>mK b xs (I.base.mK b xs e),fun b o xs e=>lR b o xs (I.base.lR b o xs e),fun b ps e=>?_⟩,?_,fun x c e=>?_,?_,fun x c e=>?_,fun p hp=>?_,be,I.len⟩
 ·exact keep b o (Uv b o e) hb (NU b o e hx) (I.base.keep b o e n hb hx) (I.base.free b o e n hx)
 ·obtain ⟨sl,e1⟩:=I.base.slot b o e n hb hx
  obtain ⟨K9,e2⟩:=slot b _ (Uv b o e) hb (NU b o e hx) e1 (I.base.free b o e n hx)
  exact ⟨K9,e2⟩
 ·obtain ⟨o',e1⟩:=I.base.there b o e hx
  exact free b o' (NU b o e hx) e1 (I.base.free b o e n hx)
 ·obtain ⟨o',e1⟩:=I.base.there b o e hx
  exact there b o' (NU b o e hx) e1
 ·obtain ⟨m1,e1⟩:=I.base.mM b ps e
  obtain ⟨m2,e2⟩:=mM b _ e1
  exact ⟨m1 ++ m2,by rw [e2,Array.append_assoc]⟩
 ·obtain ⟨m,hn,hl⟩:=I.loc
  refine ⟨m,ns m hn,fun i x v e1 e2 e3=>?_⟩
  obtain ⟨u,r,l⟩:=hl i x v e1 e2 e3
  refine ⟨u,r,?_⟩
  rcases l with l | ⟨k,c,e,z⟩
  ·exact .inl l
  ·exact .inr ⟨k,c,e,cellK x c e _ z⟩
 ·obtain ⟨v,z⟩:=I.cell x c e
  exact ⟨v,cellK x c e v z⟩
 ·obtain ⟨m,⟨o,_,_,ho,_⟩,_⟩:=I.loc
  exact free _ o (fun z=>(EN _ z).2.1 rfl) ho I.free
 ·obtain ⟨v,o,ho,hd⟩:=I.cell x c e
  exact free c o (fun z=>(EN c z).2.2.1 x c e rfl) ho (I.fq x c e)
 ·obtain ⟨e,n,ne,nf,d⟩:=I.pin p hp
  have LH:p.1∉ch:=fun z=>(EN p.1 z).2.2.2 p hp rfl
  exact ⟨keep p.1 p.2 ne nf LH e n,free p.1 p.2 LH e n,ne,nf,d⟩
theorem Inv.un {t':Nat} (I:Inv X pins σ H s) (u:Un X.fs [] H H' s.heap h') (be:j8 X.prog X.w H' h'):Inv X pins σ H' { s with heap:=h',toks:=t' }:=by
 obtain ⟨m,⟨o,es,ep,ho,r⟩,_⟩:=id I.loc
 obtain ⟨sl,hL⟩:=u.any ho I.free (by simp)
 exact I.step (g':=s.gens) (d':=s.drawn) (ch:=[]) (fun _ z=>nomatch z) (fun b o _ hb _ e n=>u.keep b o e n hb (by simp)) (fun b o _ hb _ e n=>u.slot b o e n hb (by simp)) (fun b o _ e n=>u.free b o e n (by simp)) (fun b o _ e=>u.there b o e (by simp)) u.mK u.lR u.mM (fun m' hm=>by
  obtain ⟨o',uq,OG,uo,r'⟩:=hm
  rw [ho] at uo; cases uo
  exact ⟨_,uq,OG,hL,r'⟩) be I.bare
theorem Inv.call {g':Array GenState} {t':Nat} {d':Drawn} {ch:List Addr} (I:Inv X pins σ H s) (u:Un (j5 X.stack) ch H H' s.heap h') (be:j8 X.prog X.w H' h') (hg:AllBare g')
  (EN:∀ b∈ch,(b∈X.ex \/ X.fm.heap.objs.size<=b) /\ b≠X.env.locals /\ (∀ x c,X.env.cells.lookup x=some c->c≠b) /\ ∀ p∈X.pn ++ pins,p.1≠b):
  Inv X pins σ H' { s with heap:=h',gens:=g',drawn:=d',toks:=t' }:=by
 obtain ⟨m,⟨o,es,ep,ho,r⟩,_⟩:=id I.loc
 obtain ⟨sl,hL⟩:=u.any ho I.free fun z=>(EN _ z).2.1 rfl
 exact I.step (ch:=ch) EN (fun b o hL hb hc e n=>u.keep b o e n (fun z=>(List.mem_cons.mp (I.jx b z)).elim hL hb) hc) (fun b o _ _ hc e n=>u.any e n hc) (fun b o hc e n=>u.free b o e n hc) (fun b o hc e=>u.there b o e hc) u.mK u.lR u.mM (fun m' hm=>by
  obtain ⟨o',uq,OG,uo,r'⟩:=hm
  rw [ho] at uo; cases uo
  exact ⟨_,uq,OG,hL,r'⟩) be hg
theorem Inv.turned {t':Nat} {it:Addr} (I:Inv X pins σ H s) (k:∀ b o,b≠it->s.heap.get? b=some o->h'.get? b=some o) (hn:H it=none) (hL:it≠X.env.locals)
  (h1:it∈X.ex \/ X.fm.heap.objs.size<=it) (h2:∀ x c,X.env.cells.lookup x=some c->c≠it) (h3:∀ p∈X.pn ++ pins,p.1≠it):Inv X pins σ H { s with heap:=h',toks:=t' }:=by
 have LI:∀ b u,H b=some u->b≠it:=fun b u e z=>by rw [z,hn] at e; cases e
 refine I.step (g':=s.gens) (d':=s.drawn) (ch:=[it]) (fun b hb=>?_) (fun b o _ _ hc e _=>k b o (fun z=>hc (by simp [z])) e) (fun b o _ _ hc e _=>⟨o.slots,k b o (fun z=>hc (by simp [z])) e⟩) (fun _ _ _ _ n=>n)
  (fun b o hc e=>⟨o,k b o (fun z=>hc (by simp [z])) e⟩) (fun _ _ e=>e) (fun _ _ _ e=>e) (fun b ps e=>⟨#[],by rw [e]; simp⟩) (fun m hm=>?_) (fun b u e=>?_) I.bare
 ·have e:b=it:=by simpa using hb
  subst e
  exact ⟨h1,hL,h2,h3⟩
 ·obtain ⟨o,es,ep,ho,r⟩:=hm
  exact ⟨o,es,ep,k _ o (Ne.symm hL) ho,r⟩
 ·refine (I.be b u e).mJ (fun c v hc q=>k c v ?_ q) (fun _ q=>q) (fun _ _ q=>q) fun _ _ q=>q
  rcases hc with z | z
  ·rw [z]; exact LI b u e
  ·exact LI c _ z
theorem Inv.tok (I:Inv X pins σ H s) (t:Nat):Inv X pins σ H { s with toks:=t }:=I.un (h':=s.heap) (t':=t) Un.refl I.be
theorem Inv.kept {t':Nat} (I:Inv X pins σ H s) (k:∀ b u,s.heap.get? b=some u->h'.get? b=some u):Inv X pins σ H { s with heap:=h',toks:=t' }:=I.un (Un.kept k) (I.be.kept k)
theorem Inv.laid {a:Addr} {o:HO} {t':Nat} (I:Inv X pins σ H s) (k:∀ b u,s.heap.get? b=some u->h'.get? b=some u) (hp:s.heap.objs.size<=a) (new:bN X.prog X.w (upd H a o) h' a o):
  Inv X pins σ (upd H a o) { s with heap:=h',toks:=t' }:=I.un (Un.laid k hp (I.be.fresh hp)) (I.be.laid k hp new)
theorem Inv.write {x e:Addr} {o:HO} {t':Nat} (I:Inv X pins σ H s) (mu:LD (H x)) (he:e=x \/ H e=some (.own x)) (k:∀ b u,b≠e->s.heap.get? b=some u->h'.get? b=some u) (z0:∃ u,h'.get? e=some u)
  (new:bN X.prog X.w (upd H x o) h' x o):Inv X pins σ (upd H x o) { s with heap:=h',toks:=t' }:=I.un (Un.write mu he k z0) (I.be.write mu he k z0 new)
theorem Inv.kK {pins':List (Addr×Obj)} (I:Inv X pins σ H s) (h:∀ p∈pins',s.heap.get? p.1=some p.2 /\ H p.1=none /\ p.1≠X.env.locals /\ p.1∉X.fs /\ ∀ v,p.2.data≠.cell v):Inv X pins' σ H s:=
 ⟨I.ok,I.os,I.bare,I.base,I.loc,I.cell,I.free,I.fq,fun p hp=>(List.mem_append.mp hp).elim (fun z=>I.pin p (List.mem_append_left _ z)) (h p),I.be,I.len⟩
theorem uy {N:List Str} (hN:N.Nodup) {i j:Nat} {x:Str} (a:N[i]?=some x) (b:N[j]?=some x):i=j:=by
 obtain ⟨h1,e1⟩:=List.getElem?_eq_some_iff.mp a
 obtain ⟨h2,e2⟩:=List.getElem?_eq_some_iff.mp b
 exact (List.getElem_inj hN).mp (e1.trans e2.symm)
theorem qQ {M:Model} {A:Around} {E:Value->Shared->Prop} {i:Nat} {x:Str} {v:V} {u:Value} {Q:Unit->Shared->Prop} (I:Inv X pins σ H s) (hN:X.N.Nodup) (hi:X.N[i]?=some x) (hx:Loc X.env.scope x) (r:RelV v u)
  (h:∀ s',Inv X pins (σ.set i (some v)) H s'->(∃ a,Heap.SameBut a s.heap s'.heap /\ (a=X.env.locals \/ X.env.cells.lookup x=some a))->Q () s') (hf:X.fn x=true \/ X.env.scope.names.lookup x=some .local):wpAny M A (storeName X.env x u) Q E s:=by
 obtain ⟨m,hn,hl⟩:=id I.loc
 have OH:(X.env.scope.kind == .class || (X.env.scope.kind == .module && X.env.locals != X.env.globals))=false:=by rw [I.ok.kind]; rfl
 have LJ:i < σ.length:=by rw [I.len]; exact (List.getElem?_eq_some_iff.mp hi).1
 have BC:=I.BC
 have tracked:∀ {a:Addr} {h':Heap},(∃ o,s.heap.get? a=some o /\ H a=none)->Heap.SameBut a s.heap h'->j8 X.prog X.w H h':=fun {a h'} ha hs b ob e=>by
  obtain ⟨_,_,Hr⟩:=ha
  refine (I.be b ob e).mJ (fun c w' hc q=>(hs.2 c ?_).trans q) (fun _ q=>q) (fun _ _ q=>q) fun _ _ q=>q
  rintro rfl
  rcases hc with rfl | hc
  ·rw [Hr] at e; cases e
  ·rw [Hr] at hc; cases hc
 rcases hx with hk | hk
 ·refine wpAny_storeName_local hk hn (fun h' IC hs=>?_) OH
  obtain ⟨oL,_,_,LK,_⟩:=id hn
  refine h _ ⟨I.ok,I.os,I.bare,⟨fun b o e n hb hx=>?_,fun b o e n hb hx=>?_,I.base.free,fun b o e hx=>?_,I.base.mK,I.base.lR,I.base.mM⟩,⟨_,IC,fun j y v' e1 e2 e3=>?_⟩,fun y c e=>?_,I.free,I.fq,fun p hp=>?_,tracked ⟨oL,LK,I.free⟩ hs,by simpa using I.len⟩ ⟨_,hs,.inl rfl⟩
  ·exact (hs.2 b (Nat.ne_of_lt (Nat.lt_of_lt_of_le (Heap.lt_size e) I.ok.above))).trans (I.base.keep b o e n hb hx)
  ·obtain ⟨sl,e1⟩:=I.base.slot b o e n hb hx
   exact ⟨sl,(hs.2 b (Nat.ne_of_lt (Nat.lt_of_lt_of_le (Heap.lt_size e) I.ok.above))).trans e1⟩
  ·obtain ⟨o',e1⟩:=I.base.there b o e hx
   exact ⟨o',(hs.2 b (Nat.ne_of_lt (Nat.lt_of_lt_of_le (Heap.lt_size e) I.ok.above))).trans e1⟩
  ·by_cases hj:j=i
   ·subst hj
    rw [hi] at e1; cases e1
    rw [List.getElem?_set_self LJ] at e2
    cases e2
    exact ⟨u,r,.inl ⟨hk,by simp⟩⟩
   ·rw [List.getElem?_set_ne (Ne.symm hj)] at e2
    obtain ⟨u',r',q⟩:=hl j y v' e1 e2 e3
    refine ⟨u',r',?_⟩
    rcases q with ⟨k,e⟩ | ⟨k,c,e,z⟩
    ·refine .inl ⟨k,?_⟩
     have:y≠x:=fun e=>hj (uy hN e1 (e ▸ hi))
     simp [this,e]
    ·exact .inr ⟨k,c,e,z.sameBut hs (BC y c e)⟩
  ·obtain ⟨w',z⟩:=I.cell y c e
   exact ⟨w',z.sameBut hs (BC y c e)⟩
  ·obtain ⟨e,n,ne,nf,d⟩:=I.pin p hp
   exact ⟨(hs.2 p.1 ne).trans e,n,ne,nf,d⟩
 ·have E7:X.fn x=true:=by
   rcases hf with z | z
   ·exact z
   ·rw [z] at hk; cases hk
  obtain ⟨c,hc⟩:=I.ok.has x (.inl hk)
  obtain ⟨w',z⟩:=I.cell x c hc
  refine wpAny_storeName_cell I.ok.kind hk hc z (fun h' La hs=>?_)
  obtain ⟨oc,Uw,OI⟩:=id z
  refine h { s with heap:=h' } ⟨I.ok,I.os,I.bare,⟨fun b o e n hb hx=>?_,fun b o e n hb hx=>?_,I.base.free,fun b o e hx=>?_,I.base.mK,I.base.lR,I.base.mM⟩,⟨m,hn.sameBut hs (Ne.symm (BC x c hc)),fun j y v' e1 e2 e3=>?_⟩,fun y c' e=>?_,I.free,I.fq,fun p hp=>?_,tracked ⟨oc,Uw,I.fq x c hc⟩ hs,by simpa using I.len⟩ ⟨c,hs,.inr hc⟩
  ·exact (hs.2 b (Nat.ne_of_lt (Nat.lt_of_lt_of_le (Heap.lt_size e) (I.ok.BA x c E7 hc)))).trans (I.base.keep b o e n hb hx)
  ·obtain ⟨sl,e1⟩:=I.base.slot b o e n hb hx
   exact ⟨sl,(hs.2 b (Nat.ne_of_lt (Nat.lt_of_lt_of_le (Heap.lt_size e) (I.ok.BA x c E7 hc)))).trans e1⟩
  ·obtain ⟨o',e1⟩:=I.base.there b o e hx
   exact ⟨o',(hs.2 b (Nat.ne_of_lt (Nat.lt_of_lt_of_le (Heap.lt_size e) (I.ok.BA x c E7 hc)))).trans e1⟩
  ·by_cases hj:j=i
   ·subst hj
    rw [hi] at e1; cases e1
    rw [List.getElem?_set_self LJ] at e2
    cases e2
    exact ⟨u,r,.inr ⟨.inl hk,c,hc,La⟩⟩
   ·rw [List.getElem?_set_ne (Ne.symm hj)] at e2
    obtain ⟨u',r',q⟩:=hl j y v' e1 e2 e3
    refine ⟨u',r',?_⟩
    rcases q with q | ⟨k,c',e,z'⟩
    ·exact .inl q
    ·refine .inr ⟨k,c',e,z'.sameBut hs ?_⟩
     rintro rfl
     exact hj (uy hN e1 (I.ok.inj _ _ _ e hc ▸ hi))
  ·by_cases NV:c'=c
   ·subst NV; exact ⟨_,La⟩
   ·obtain ⟨w2,z2⟩:=I.cell y c' e
    exact ⟨w2,z2.sameBut hs NV⟩
  ·obtain ⟨e,n,ne,nf,d⟩:=I.pin p hp
   refine ⟨(hs.2 p.1 ?_).trans e,n,ne,nf,d⟩
   intro q
   rw [q,Uw] at e
   have q':oc=p.2:=Option.some.inj e
   exact d w' (by rw [<- q']; exact OI)
theorem oE {M:Model} {A:Around} {E:Value->Shared->Prop} {i:Nat} {x:Str} {v:V} {u:Value} {Q:Unit->Shared->Prop} (I:Inv X pins σ H s) (hN:X.N.Nodup) (hi:X.N[i]?=some x) (hx:Loc X.env.scope x) (r:RelV v u)
  (h:∀ s',Inv X pins (σ.set i (some v)) H s'->Q () s') (hf:X.fn x=true \/ X.env.scope.names.lookup x=some .local):wpAny M A (storeName X.env x u) Q E s:=
 qQ I hN hi hx r (fun s' I' _=>h s' I') hf
theorem Inv.BD {s':Shared} {ch:List Addr} (I:Inv X pins σ H s) (ho:s'.os=s.os) (u:Un (j5 X.stack) ch H H' s.heap s'.heap) (be:j8 X.prog X.w H' s'.heap) (hg:AllBare s'.gens)
  (EN:∀ b∈ch,(b∈X.ex \/ X.fm.heap.objs.size<=b) /\ b≠X.env.locals /\ (∀ x c,X.env.cells.lookup x=some c->c≠b) /\ ∀ p∈X.pn ++ pins,p.1≠b):Inv X pins σ H' s':=by
 obtain ⟨h',g',d',t',o'⟩:=s'
 have e:o'=s.os:=ho
 subst e
 exact I.call (g':=g') (t':=t') (d':=d') u be hg EN
end
abbrev XK:=Value->Option Addr->Hp->Prop
abbrev St:=List (Option V)
abbrev VK:=V->Hp->Prop
abbrev TE:=St->Hp->VK->Prop
abbrev TT:=St->Hp->(Bool->Hp->Prop)->Prop
abbrev TA:=St->Hp->(List V->Hp->Prop)->Prop
structure Ends where
 nx:St->Hp->Prop
 rt:VK
 bk:St->Hp->Prop:=fun _ _=>False
 ct:St->Hp->Prop:=fun _ _=>False
abbrev TS:=Ends->St->Hp->Prop
def EP (X:Cx) (pins:List (Addr×Obj)) (σ:St) (Q:VK) (u:Value) (s':Shared):Prop:=∃ v H',Inv X pins σ H' s' /\ RelV v u /\ Q v H'
def TP (X:Cx) (pins:List (Addr×Obj)) (σ:St) (Q:Bool->Hp->Prop) (b:Bool) (s':Shared):Prop:=∃ H',Inv X pins σ H' s' /\ Q b H'
def AP (X:Cx) (pins:List (Addr×Obj)) (σ:St) (Q:List V->Hp->Prop) (us:List Value) (s':Shared):Prop:=∃ vs H',Inv X pins σ H' s' /\ a4 vs us /\ Q vs H'
def SP (X:Cx) (pins:List (Addr×Obj)) (D:Ends) (f:Flow) (s':Shared):Prop:=
 match f with
 | .next=>∃ cb H',Inv X pins cb H' s' /\ D.nx cb H'
 | .brk=>∃ cb H',Inv X pins cb H' s' /\ D.bk cb H'
 | .cont=>∃ cb H',Inv X pins cb H' s' /\ D.ct cb H'
 | .ret u=>∃ v cb H',Inv X pins cb H' s' /\ RelV v u /\ D.rt v H'
def PE (X:Cx) (e:Expr) (t:TE):Prop:=
 ∀ (pins:List (Addr×Obj)) (s:Shared) (σ:St) (H:Hp) (Q:VK),Inv X pins σ H s->t σ H Q->wpAny (model X.prog X.w) X.A (eval e X.env) (EP X pins σ Q) X.xe s
def PT (X:Cx) (e:Expr) (t:TT):Prop:=
 ∀ (pins:List (Addr×Obj)) (s:Shared) (σ:St) (H:Hp) (Q:Bool->Hp->Prop),Inv X pins σ H s->t σ H Q->wpAny (model X.prog X.w) X.A (isTrue e X.env (eval e X.env)) (TP X pins σ Q) X.xe s
def PW (X:Cx) (e:Expr) (t:TT):Prop:=
 ∀ (whole:Sem Value) (pins:List (Addr×Obj)) (s:Shared) (σ:St) (H:Hp) (Q:Bool->Hp->Prop),Inv X pins σ H s->t σ H Q->wpAny (model X.prog X.w) X.A (isTrue e X.env whole) (TP X pins σ Q) X.xe s
theorem PW.pt {X:Cx} {e:Expr} {t:TT} (h:PW X e t):PT X e t:=h _
def PA (X:Cx) (es:List Expr) (t:TA):Prop:=
 ∀ (pos:Pos) (pins:List (Addr×Obj)) (s:Shared) (σ:St) (H:Hp) (Q:List V->Hp->Prop),Inv X pins σ H s->t σ H Q->wpAny (model X.prog X.w) X.A (spliced (backTo pos (starEach es X.env))) (AP X pins σ Q) X.xe s
def PS (X:Cx) (st:Stmt) (t:TS):Prop:=
 ∀ (pins:List (Addr×Obj)) (s:Shared) (σ:St) (H:Hp) (D:Ends),Inv X pins σ H s->t D σ H->wpAny (model X.prog X.w) X.A (exec st X.env) (SP X pins D) X.xe s
def jy (X:Cx) (st:List Stmt) (t:TS):Prop:=
 ∀ (pins:List (Addr×Obj)) (s:Shared) (σ:St) (H:Hp) (D:Ends),Inv X pins σ H s->t D σ H->wpAny (model X.prog X.w) X.A (execs st X.env) (SP X pins D) X.xe s
theorem cO {α:Type} {t:Sem α} {Q Q':α->Shared->Prop} {M:Model} {A:Around} {E:Value->Shared->Prop} {s:Shared} (h:wpAny M A t Q E s) (hQ:∀ a s,Q a s->Q' a s):wpAny M A t Q' E s:=wpAny_mono h hQ fun _ _ x=>x
section
variable {X:Cx}
def uz (i:Nat):TE:=fun σ H Q=>∃ v,σ[i]?=some (some v) /\ Q v H
def tC (v:V):TE:=fun _ H Q=>Q v H
theorem BE {i:Nat} {x:Str} {pos:Pos} (hN:X.N[i]?=some x) (hv:K8 X.env.scope x) (hd:(x == ("__debug__":Str))=false:=by decide) (mO:(x == ("__classdict__":Str))=false:=by decide):PE X (.Name x pos) (uz i):=by
 intro pins s σ H Q I h
 obtain ⟨v,e,h⟩:=h
 obtain ⟨m,hn,hl⟩:=I.loc
 obtain ⟨u,r,l⟩:=hl i x v hN e hv
 have fin:EP X pins σ Q u s:=⟨v,H,I,r,h⟩
 rcases l with ⟨hk,hm⟩ | ⟨hk,c,hc,yZ⟩
 ·exact wpAny_Name (wpAny_loadName_local I.ok.kind hk hn hm fin) hd
 ·rcases hk with hk | hk
  ·exact wpAny_Name (wpAny_loadName_cell I.ok.kind hk hc yZ fin) hd
  ·exact wpAny_Name (wpAny_loadName_free I.ok.kind hk hc yZ fin mO) hd
theorem aj {i j pos}:PE X (.Constant (.int i) j pos) (tC (.int i)):=fun _ _ _ H _ I h=>wpAny_Constant_int ⟨.int i,H,I.tok _,⟨_,rfl⟩,h⟩
theorem je {b j pos}:PE X (.Constant (.bool b) j pos) (tC (.bl b)):=fun _ _ _ H _ I h=>Constant_bool ⟨.bl b,H,I,rfl,h⟩
theorem j9 {x j pos}:PE X (.Constant (.str x) j pos) (tC (.str x)):=fun _ _ _ H _ I h=>Calls.Constant_str ⟨.str x,H,I.tok _,⟨_,rfl⟩,h⟩
def Gl (X:Cx) (x:Str):Prop:=X.env.kindOf x=some .globalImplicit
theorem kL {E:Value->Shared->Prop} {pins:List (Addr×Obj)} {s:Shared} {σ:St} {H:Hp} {x:Str} {u:Value} {pos:Pos} {Q:Value->Shared->Prop} (I:Inv X pins σ H s) (hg:Gl X x) (hm:X.mg x=some u) (h:Q u s)
  (hd:(x == ("__debug__":Str))=false:=by decide):wpAny (model X.prog X.w) X.A (eval (.Name x pos) X.env) Q E s:=
 Calls.Name_function_global I.ok.kind hg (Calls.loadGlobal_global (by rw [I.ok.glob]; exact I.mod.glob.keeps I.bk) hm h) hd
theorem fK {E:Value->Shared->Prop} {pins:List (Addr×Obj)} {s:Shared} {σ:St} {H:Hp} {x:Str} {u:Value} {pos:Pos} {Q:Value->Shared->Prop} (I:Inv X pins σ H s) (hg:Gl X x) (hm:X.mg x=none) (hv:bootBuiltins x=some u) (h:Q u s)
  (hn:x≠"__name__":=by decide) (hd:(x == ("__debug__":Str))=false:=by decide):wpAny (model X.prog X.w) X.A (eval (.Name x pos) X.env) Q E s:=by
 obtain ⟨mb,h1,h2⟩:=I.mod.blt
 exact Calls.Name_function_global I.ok.kind hg (Calls.loadGlobal_builtin (by rw [I.ok.glob]; exact I.mod.glob.keeps I.bk) hm (by rw [I.ok.blt]; exact h1.keeps I.bk) ((h2 x hn).trans hv) h) hd
theorem E8 {x:Str} {v:V} {u:Value} {pos:Pos} (hg:Gl X x) (hm:X.mg x=some u) (r:RelV v u) (hd:(x == ("__debug__":Str))=false:=by decide):PE X (.Name x pos) (tC v):=
 fun _ _ _ H _ I h=>kL I hg hm ⟨v,H,I,r,h⟩ hd
theorem jz {x:Str} {v:V} {u:Value} {pos:Pos} (hg:Gl X x) (hm:X.mg x=none) (hv:bootBuiltins x=some u) (r:RelV v u) (hn:x≠"__name__":=by decide) (hd:(x == ("__debug__":Str))=false:=by decide):PE X (.Name x pos) (tC v):=
 fun _ _ _ H _ I h=>fK I hg hm hv ⟨v,H,I,r,h⟩ hn hd
variable {a b:Expr} {ta tb:TE} {pos:Pos}
def PC (X:Cx) (op:CmpOp) (a b:Expr) (t:TE):Prop:=
 ∀ (pins:List (Addr×Obj)) (s:Shared) (σ:St) (H:Hp) (Q:VK),Inv X pins σ H s->t σ H Q->
   wpAny (model X.prog X.w) X.A (eval a X.env) (fun v bf=>wpAny (model X.prog X.w) X.A (eval b X.env) (fun u jA=>wpAny (model X.prog X.w) X.A (compareOp op v u) (EP X pins σ Q) X.xe jA) X.xe bf) X.xe s
theorem uA (b:Expr) {op:CmpOp} (h:op≠.In) (h2:op≠.NotIn):behindInMarks op b=false:=by
 have e1:(op == CmpOp.In)=false:=by cases op <;> first | rfl | exact absurd rfl h
 have e2:(op == CmpOp.NotIn)=false:=by cases op <;> first | rfl | exact absurd rfl h2
 cases b <;> simp [behindInMarks,e1,e2]
def tB (t:TE):TT:=fun σ H Q=>t σ H fun x H1=>∃ c,x=.bl c /\ Q c H1
theorem ID {op:CmpOp} {t:TE} (h:PC X op a b t) (h1:behindInMarks op b=false:=by first | exact uA _ (by decide) (by decide) | rfl):PE X (.Compare a [op] [b] pos) t:=fun pins s σ H Q I hw=>wpAny_Compare1 (h pins s σ H Q I hw) h1
theorem IE {op:CmpOp} {t:TE} (h:PC X op a b t) (h1:behindInMarks op b=false:=by first | exact uA _ (by decide) (by decide) | rfl):PT X (.Compare a [op] [b] pos) (tB t):=by
 intro pins s σ H Q I hw
 refine wpAny_isTrue_Compare1 (cO (h pins s σ H _ I hw) fun v s1 h1=>cO h1 fun u s2 h2=>cO h2 fun c s3 ⟨x,H1,I1,r1,q1⟩=>?_) h1
 obtain ⟨d,rfl,q⟩:=q1
 cases r1
 exact wpAny_truthy_bool ⟨H1,I1,q⟩
variable {tA NW:TT} {rest:List Expr}
def OJ (t u:TT):TT:=fun σ H Q=>t σ H fun c H1=>if c=true then u σ H1 Q else Q false H1
def VQ (t u:TT):TT:=fun σ H Q=>t σ H fun c H1=>if c=true then Q true H1 else u σ H1 Q
def OK (t:TT):TT:=fun σ H Q=>t σ H fun c H1=>Q (!c) H1
theorem pw_and1 (ha:PT X a tA):PW X (.BoolOp .And [a] pos) tA:=by
 intro wh pins s σ H Q I h
 refine isTrue_and (cO (ha pins s σ H Q I h) fun c s1 e=>?_)
 cases c with
 | true=>exact isTrue_and_nil e
 | false=>exact e
theorem pw_or1 (ha:PT X a tA):PW X (.BoolOp .Or [a] pos) tA:=by
 intro wh pins s σ H Q I h
 refine isTrue_or (cO (ha pins s σ H Q I h) fun c s1 e=>?_)
 cases c with
 | false=>exact isTrue_or_nil e
 | true=>exact e
theorem pw_and (ha:PT X a tA) (hb:PW X (.BoolOp .And (b :: rest) pos) NW):PW X (.BoolOp .And (a :: b :: rest) pos) (OJ tA NW):=by
 intro wh pins s σ H Q I h
 refine isTrue_and (cO (ha pins s σ H _ I h) fun c s1 ⟨H1,I1,q1⟩=>?_)
 cases c with
 | true=>exact hb wh pins s1 σ H1 Q I1 q1
 | false=>exact ⟨H1,I1,q1⟩
theorem pw_or (ha:PT X a tA) (hb:PW X (.BoolOp .Or (b :: rest) pos) NW):PW X (.BoolOp .Or (a :: b :: rest) pos) (VQ tA NW):=by
 intro wh pins s σ H Q I h
 refine isTrue_or (cO (ha pins s σ H _ I h) fun c s1 ⟨H1,I1,q1⟩=>?_)
 cases c with
 | true=>exact ⟨H1,I1,q1⟩
 | false=>exact hb wh pins s1 σ H1 Q I1 q1
theorem IF (ha:PT X a tA):PT X (.UnaryOp .Not a pos) (OK tA):=by
 intro pins s σ H Q I h
 exact isTrue_not (ha pins s σ H (fun c H1=>Q (!c) H1) I h)
def LL (ta tb:TE):TE:=fun σ H Q=>ta σ H fun x H1=>∃ c,x=.bl c /\ if c=true then tb σ H1 Q else Q (.bl false) H1
def LM (ta:TE):TE:=fun σ H Q=>ta σ H fun x H1=>∃ c,x=.bl c /\ Q (.bl (!c)) H1
theorem wU {op} {t:TE} (h:PE X a t):PE X (.BoolOp op [a] pos) t:=fun pins s σ H Q I hw=>BoolOp_one (h pins s σ H Q I hw)
theorem IG (ha:PE X a ta) (hb:PE X (.BoolOp .And (b :: rest) pos) tb):PE X (.BoolOp .And (a :: b :: rest) pos) (LL ta tb):=by
 intro pins s σ H Q I h
 refine BoolOp_and (cO (ha pins s σ H _ I h) fun v s1 ⟨x,H1,I1,r1,q1⟩=>?_)
 obtain ⟨c,rfl,q1⟩:=q1
 cases r1
 refine wpAny_truthy_bool ?_
 cases c with
 | true=>exact hb pins s1 σ H1 Q I1 q1
 | false=>exact ⟨.bl false,H1,I1,rfl,q1⟩
theorem IH (ha:PE X a ta):PE X (.UnaryOp .Not a pos) (LM ta):=by
 intro pins s σ H Q I h
 refine UnaryOp_ (cO (ha pins s σ H _ I h) fun v s1 ⟨x,H1,I1,r1,q1⟩=>?_)
 obtain ⟨c,rfl,q1⟩:=q1
 cases r1
 exact not_of (wpAny_truthy_bool ⟨.bl (!c),H1,I1,rfl,q1⟩)
def VR (t:TT) (ta tb:TE):TE:=fun σ H Q=>t σ H fun c H1=>if c=true then ta σ H1 Q else tb σ H1 Q
theorem BF {c:Expr} (hc:PT X c tA) (ha:PE X a ta) (hb:PE X b tb):PE X (.IfExp c a b pos) (VR tA ta tb):=by
 intro pins s σ H Q I h
 refine wpAny_IfExp (cO (hc pins s σ H _ I h) fun d s1 ⟨H1,I1,q1⟩=>?_)
 cases d with
 | true=>exact ha pins s1 σ H1 Q I1 q1
 | false=>exact hb pins s1 σ H1 Q I1 q1
end
def gN (K:PySem.W.Frag) (H:Hp) (a:Addr) (xs:List V):Prop:=
 Rd H a (.lst xs) \/
  ∃ (o:Obj) (its:Array Value) (n:Nat),K.lookup a=some o /\ o.cls=.type "list" /\ o.dict=none /\ o.data=.seq its n /\ its.size<=sizeLine /\ a4 xs its.toList
def jB (K:PySem.W.Frag) (H:Hp) (a:Addr) (xs:List V):Prop:=
 Rd H a (.tup xs) \/
  ∃ (o:Obj) (its:Array Value) (n:Nat),K.lookup a=some o /\ o.cls=.type "tuple" /\ o.data=.seq its n /\ its.size<=sizeLine /\ a4 xs its.toList
def OL:Value->Option V
 | .none=>some .gM
 | .bool b=>some (.bl b)
 | .int i _=>some (.int i)
 | .str x _=>some (.str x)
 | .bytes b _=>some (.LC b)
 | .float b _=>some (.EM b)
 | .ref a=>some (.ref a)
 | .type n=>some (.ty n)
 | _=>none
theorem RelV.abs {x:V} {u:Value} (r:RelV x u):OL u=some x:=by
 cases x with
 | gM=>cases r; rfl
 | bl _=>cases r; rfl
 | int _=>obtain ⟨t,rfl⟩:=r; rfl
 | str _=>obtain ⟨t,rfl⟩:=r; rfl
 | LC _=>obtain ⟨t,rfl⟩:=r; rfl
 | EM _=>obtain ⟨t,rfl⟩:=r; rfl
 | ref _=>cases r; rfl
 | ty _=>cases r; rfl
theorem RelV.inj {x y:V} {u:Value} (r:RelV x u) (q:RelV y u):x=y:=Option.some.inj (r.abs.symm.trans q.abs)
theorem a4.inj:∀ {xs ys:List V} {us:List Value},a4 xs us->a4 ys us->xs=ys
 | _,_,_,.nil,.nil=>rfl
 | _,_,_,.cons r t,.cons r' t'=>by rw [r.inj r',a4.inj t t']
section
variable {X:Cx} {pins:List (Addr×Obj)} {σ:St} {H:Hp} {s:Shared} {a:Addr} {xs ys:List V}
theorem gN.of {K:PySem.W.Frag} (h:H a=some (.lst xs)):gN K H a xs:=.inl (.inl h)
theorem Inv.list (I:Inv X pins σ H s) (h:gN X.K H a xs):∃ its:List Value,a4 xs its /\ PlainL s.heap a its.toArray /\ xs.length<=sizeLine:=by
 rcases h with h | ⟨o,its,n,hk,hc,hd,hs,hz,r⟩
 ·obtain ⟨z,its,n,r,e⟩:=h.ok I.be
  exact ⟨its,r,⟨_,n,e,rfl,rfl,rfl⟩,z⟩
 ·refine ⟨its.toList,r,⟨o,n,I.kU a o hk,hc,hd,by simpa using hs⟩,?_⟩
  have e:=r.length
  simp only [Array.length_toList] at e
  omega
theorem Inv.tuple (I:Inv X pins σ H s) (h:jB X.K H a xs):∃ its:List Value,a4 xs its /\ IsTup s.heap a its.toArray /\ xs.length<=sizeLine:=by
 rcases h with h | ⟨o,its,n,hk,hc,hs,hz,r⟩
 ·obtain ⟨z,its,r,p⟩:=h.ok I.be
  exact ⟨its,r,p,z⟩
 ·refine ⟨its.toList,r,⟨o,I.kU a o hk,hc,n,by simpa using hs⟩,?_⟩
  have e:=r.length
  simp only [Array.length_toList] at e
  omega
theorem Inv.lT (I:Inv X pins σ H s) (h:gN X.K H a xs) (h':gN X.K H a ys):xs=ys:=by
 obtain ⟨its,r,⟨o,n,e,_,_,d⟩,_⟩:=I.list h
 obtain ⟨its',r',⟨o',n',e',_,_,d'⟩,_⟩:=I.list h'
 rw [e] at e'; cases e'
 rw [d] at d'
 injection d' with d1 _
 have:its=its':=by simpa using congrArg Array.toList d1
 subst this
 exact r.inj r'
theorem Inv.mP (I:Inv X pins σ H s) (h:jB X.K H a xs) (h':jB X.K H a ys):xs=ys:=by
 obtain ⟨its,r,⟨o,e,_,n,d⟩,_⟩:=I.tuple h
 obtain ⟨its',r',⟨o',e',_,n',d'⟩,_⟩:=I.tuple h'
 rw [e] at e'; cases e'
 rw [d] at d'
 injection d' with d1 _
 have:its=its':=by simpa using congrArg Array.toList d1
 subst this
 exact r.inj r'
end
abbrev Cx.qi (X:Cx) (E:Value->Shared->Prop):Cx:={ X with xe:=E }
abbrev Cx.BG (X:Cx):Cx:=X.qi fun _ _=>False
theorem Cx.Ok.qi {X:Cx} (ok:X.Ok) (E:Value->Shared->Prop):(X.qi E).Ok:=
 ⟨ok.mod,ok.kind,ok.glob,ok.blt,ok.above,ok.inj,ok.has,ok.BA,ok.hd,ok.frames,ok.E6,ok.IA,ok.bs,ok.yY,ok.qh,ok.rR,ok.ig,ok.wR⟩
theorem Cx.Ok.ka {X:Cx} {E:Value->Shared->Prop} (ok:(X.qi E).Ok):X.Ok:=
 ⟨ok.mod,ok.kind,ok.glob,ok.blt,ok.above,ok.inj,ok.has,ok.BA,ok.hd,ok.frames,ok.E6,ok.IA,ok.bs,ok.yY,ok.qh,ok.rR,ok.ig,ok.wR⟩
section
variable {X:Cx} {pins:List (Addr×Obj)} {σ:St} {H:Hp} {s:Shared} {E:Value->Shared->Prop}
theorem Inv.qi (I:Inv X pins σ H s) (E:Value->Shared->Prop):Inv (X.qi E) pins σ H s:=⟨I.ok.qi E,I.os,I.bare,I.base,I.loc,I.cell,I.free,I.fq,I.pin,I.be,I.len⟩
theorem Inv.ka (I:Inv (X.qi E) pins σ H s):Inv X pins σ H s:=⟨I.ok.ka,I.os,I.bare,I.base,I.loc,I.cell,I.free,I.fq,I.pin,I.be,I.len⟩
theorem SP.ka {D:Ends} {f:Flow} {s':Shared} (h:SP (X.qi E) pins D f s'):SP X pins D f s':=by
 cases f with
 | next=>obtain ⟨cb,H',I,q⟩:=h; exact ⟨cb,H',I.ka,q⟩
 | brk=>obtain ⟨cb,H',I,q⟩:=h; exact ⟨cb,H',I.ka,q⟩
 | cont=>obtain ⟨cb,H',I,q⟩:=h; exact ⟨cb,H',I.ka,q⟩
 | ret u=>obtain ⟨v,cb,H',I,r,q⟩:=h; exact ⟨v,cb,H',I.ka,r,q⟩
theorem jy.BG {st:List Stmt} {t:TS} (h:jy X.BG st t):jy X st t:=fun pins s σ H D I hw=>
 wpAny_mono (h pins s σ H D (I.qi _) hw) (fun _ _ q=>q.ka) fun _ _ z=>False.elim z
end
section
variable {X:Cx} {st:Stmt} {rest:List Stmt} {t u:TS} {e:Expr} {te:TE} {pos:Pos}
def LN:TS:=fun D σ H=>D.nx σ H
def OM (t u:TS):TS:=fun D σ H=>t { D with nx:=u D } σ H
theorem y0:jy X [] LN:=fun _ _ σ H _ I h=>wpAny_execs_nil ⟨σ,H,I,h⟩
theorem oF (h1:PS X st t) (h2:jy X rest u):jy X (st :: rest) (OM t u):=by
 intro pins s σ H D I h
 refine wpAny_execs_cons (cO (h1 pins s σ H { D with nx:=u D } I h) fun f s1 q=>?_)
 cases f with
 | next=>
   obtain ⟨cb,H',I',q⟩:=q
   exact h2 pins s1 cb H' D I' q
 | ret v=>exact q
 | brk=>exact q
 | cont=>exact q
theorem E9 (h1:PS X st t):jy X [st] t:=by
 intro pins s σ H D I h
 refine wpAny_execs_cons (cO (h1 pins s σ H D I h) fun f s1 q=>?_)
 cases f with
 | next=>exact wpAny_execs_nil q
 | ret v=>exact q
 | brk=>exact q
 | cont=>exact q
theorem Inv.quiet {pins:List (Addr×Obj)} {σ:St} {H:Hp} {s:Shared} (I:Inv X pins σ H s):interactive X.env=false:=by simp [interactive,I.ok.kind]
def uB (te:TE):TS:=fun D σ H=>te σ H fun _ H1=>D.nx σ H1
theorem fu (he:PE X e te) (hs:swapsWith e none pos.line X.env=pure false:=by rfl):PS X (.Expr e pos) (uB te):=by
 intro pins s σ H D I h
 exact wpAny_Expr_any (cO (he pins s σ H _ I h) fun v s1 ⟨x,H1,I1,r1,q1⟩=>⟨σ,H1,I1,q1⟩) I.quiet hs
def ON (te:TE):TS:=fun D σ H=>te σ H D.rt
theorem oG (he:PE X e te):PS X (.Return (some e) pos) (ON te):=by
 intro pins s σ H D I h
 exact wpAny_Return_some (cO (he pins s σ H _ I h) fun v s1 ⟨x,H1,I1,r1,q1⟩=>⟨x,σ,H1,I1,r1,q1⟩)
def OO (c:TT) (t u:TS):TS:=fun D σ H=>c σ H fun b H1=>if b=true then t D σ H1 else u D σ H1
theorem LP {c:Expr} {a b:List Stmt} {tc:TT} (hc:PT X c tc) (ha:jy X a t) (hb:jy X b u):PS X (.If c a b pos) (OO tc t u):=by
 intro pins s σ H D I h
 refine wpAny_If (cO (hc pins s σ H _ I h) fun d s1 ⟨H1,I1,q1⟩=>?_)
 cases d with
 | true=>exact ha pins s1 σ H1 D I1 q1
 | false=>exact hb pins s1 σ H1 D I1 q1
def II:TS:=fun _ _ _=>False
theorem BH:PS X st II:=fun _ _ _ _ _ _ h=>h.elim
end
abbrev TG:=V->St->Hp->(St->Hp->Prop)->Prop
abbrev Fb:=List V->St->Hp->(St->Hp->Prop)->Prop
def PG (X:Cx) (target:Expr) (t:TG):Prop:=
 ∀ (pins:List (Addr×Obj)) (s:Shared) (σ:St) (H:Hp) (v:V) (u:Value) (Q:St->Hp->Prop),Inv X pins σ H s->RelV v u->t v σ H Q->
   wpAny (model X.prog X.w) X.A (assign target X.env u) (fun _ s'=>∃ cb H',Inv X pins cb H' s' /\ Q cb H') X.xe s
def BI (X:Cx) (ts:List Expr) (t:Fb):Prop:=
 ∀ (pins:List (Addr×Obj)) (s:Shared) (σ:St) (H:Hp) (vs:List V) (us:List Value) (Q:St->Hp->Prop),Inv X pins σ H s->a4 vs us->t vs σ H Q->
   wpAny (model X.prog X.w) X.A (assignInOrder ((assignEach ts X.env).map (·.2)) us) (fun _ s'=>∃ cb H',Inv X pins cb H' s' /\ Q cb H') X.xe s
section
variable {X:Cx} {pos:Pos}
def kW (i:Nat):TG:=fun v σ H Q=>Q (σ.set i (some v)) H
theorem aE {i:Nat} {x:Str} (hN:X.N.Nodup) (hi:X.N[i]?=some x) (hx:Loc X.env.scope x) (hf:X.fn x=true \/ X.env.scope.names.lookup x=some .local:=by first | exact .inl rfl | exact .inr rfl | assumption):PG X (.Name x pos) (kW i):=by
 intro pins s σ H v u Q I r h
 exact wpAny_assign_Name (oE I hN hi hx r (fun s' I'=>⟨_,H,I',h⟩) hf)
def OP:Fb:=fun vs σ H Q=>vs=[] /\ Q σ H
def LQ (t:TG) (u:Fb):Fb:=fun vs σ H Q=>∃ v r,vs=v :: r /\ t v σ H fun cb H'=>u r cb H' Q
theorem Fc:BI X [] OP:=by
 intro pins s σ H vs us Q I r h
 obtain ⟨e,h⟩:=h
 subst e
 cases r
 exact assignInOrder_nil ⟨σ,H,I,h⟩
theorem BJ {e:Expr} {es:List Expr} {t:TG} {u:Fb} (h1:PG X e t) (h2:BI X es u)
  (hs:(assignEach (e :: es) X.env).map (·.2)=assign e X.env :: (assignEach es X.env).map (·.2):=by rfl):BI X (e :: es) (LQ t u):=by
 intro pins s σ H vs us Q I r h
 obtain ⟨v,vr,e1,h⟩:=h
 subst e1
 cases r with
 | cons r rr=>
   rw [hs]
   refine assignInOrder_cons (cO (h1 pins s σ H _ _ _ I r h) fun _ s1 ⟨IJ,H1,I1,q1⟩=>?_)
   exact h2 pins s1 IJ H1 _ _ Q I1 rr q1
def OQ (K:PySem.W.Frag) (n:Nat) (t:Fb):TG:=fun v σ H Q=>∃ a xs,v=.ref a /\ jB K H a xs /\ xs.length=n /\ t xs σ H Q
theorem IK {es:List Expr} {k:Nat} {t:Fb} {n:Nat} (hc:X.calm=true) (h:BI X es t)
  (hn:(assignEach es X.env).length=n:=by rfl) (Ht:(assignEach es X.env).findIdx? (·.1)=none:=by rfl):PG X (.Tuple es k pos) (OQ X.K n t):=by
 intro pins s σ H v u Q I r hw
 obtain ⟨a,xs,e1,hq,hl,hw⟩:=hw
 subst e1
 cases r
 obtain ⟨its,rv,ht,hz⟩:=I.tuple hq
 refine assign_Tuple_tuple (I.ok.hd hc) ht (by simp [hn,<- hl,rv.length]) Ht fun h' hx=>?_
 have I1:Inv X pins σ H { s with heap:=h' }:=I.kept (t':=s.toks) fun b o e=>hx b o (Nat.ne_of_lt (Heap.lt_size e)) e
 exact h pins _ σ H xs _ Q I1 (by simpa using rv) hw
def uC (te:TE) (g:TG):TS:=fun D σ H=>te σ H fun x H1=>g x σ H1 D.nx
theorem aC {i:Nat} {x:Str} {e:Expr} {te:TE} {pos':Pos} (hN:X.N.Nodup) (hi:X.N[i]?=some x) (hx:Loc X.env.scope x) (he:PE X e te) (hs:swapsWith e (some (.Name x pos')) pos.line X.env=pure false:=by rfl) (hf:X.fn x=true \/ X.env.scope.names.lookup x=some .local:=by first | exact .inl rfl | exact .inr rfl | assumption):
  PS X (.Assign [.Name x pos'] e pos) (uC te (kW i)):=by
 intro pins s σ H D I h
 refine wpAny_Assign_Name (cO (he pins s σ H _ I h) fun v s1 ⟨y,H1,I1,r1,q1⟩=>?_) hs
 exact oE I1 hN hi hx r1 (fun s2 I2=>⟨_,H1,I2,q1⟩) hf
end
section
variable {X:Cx} {pos:Pos}
def IL (c:TT) (tb:TS):TS:=fun D σ H=>∃ W:Nat->St->Hp->Prop,(∃ m,W m σ H) /\ ∀ m σ H,W m σ H->
 c σ H fun b H1=>if b=true then ∃ N:St->Hp->Prop,(∀ cb H',N cb H'->∃ m',m' < m /\ W m' cb H') /\ tb { D with nx:=N,ct:=N,bk:=D.nx } σ H1 else D.nx σ H1
theorem BK {c:Expr} {body:List Stmt} {tc:TT} {tb:TS} (hp:PassesOwn (model X.prog X.w) X.A X.env X.xe) (hc:PT X c tc) (hb:jy X body tb):PS X (.While c body [] pos) (IL tc tb):=by
 intro pins s σ H D I h
 obtain ⟨W,⟨m0,w0⟩,turn⟩:=h
 refine wpAny_While (codeAny_whileLoop (fun n s'=>∃ cb H',Inv X pins cb H' s' /\ W n cb H') ?_ m0 ⟨σ,H,I,w0⟩)
 rintro n s1 ⟨IJ,H1,I1,w1⟩
 refine wpAny_passesOwn hp (cO (hc pins s1 IJ H1 _ I1 (turn n IJ H1 w1)) fun b s2 ⟨H2,I2,q2⟩=>?_)
 cases b with
 | true=>
   obtain ⟨N,hN,q2⟩:=q2
   rw [if_pos rfl]
   refine wpAny_passesOwn hp (cO (hb pins s2 IJ H2 _ I2 q2) fun f s3 q3=>?_)
   cases f with
   | next=>
     obtain ⟨BL,H3,I3,n3⟩:=q3
     obtain ⟨m',hm,w3⟩:=hN BL H3 n3
     exact ⟨m',hm,BL,H3,I3,w3⟩
   | cont=>
     obtain ⟨BL,H3,I3,n3⟩:=q3
     obtain ⟨m',hm,w3⟩:=hN BL H3 n3
     exact ⟨m',hm,BL,H3,I3,w3⟩
   | brk=>exact q3
   | ret v=>exact q3
 | false=>
   rw [if_neg Bool.false_ne_true]
   exact wpAny_execs_nil ⟨IJ,H2,I2,q2⟩
end
structure It where
 go:Nat->Hp->Prop
 LR:Nat->Hp->V->Hp->Prop
 stop:Nat->Hp->Prop
def n8 (X:Cx) (pins:List (Addr×Obj)) (H:Hp) (b:Addr):Prop:=
 H b=none /\ b≠X.env.locals /\ b∉X.fs /\ (b∈X.ex \/ X.fm.heap.objs.size<=b) /\ (∀ x c,X.env.cells.lookup x=some c->c≠b) /\ ∀ p∈X.pn ++ pins,p.1≠b
theorem Inv.lU {X:Cx} {pins:List (Addr×Obj)} {σ:St} {H H':Hp} {s:Shared} {b:Addr} (I:Inv X pins σ H s) (hb:s.heap.objs.size<=b) (hn:H' b=none):n8 X pins H' b:=by
 refine ⟨hn,Nat.ne_of_gt (Nat.lt_of_lt_of_le I.lt hb),I.LG hb,.inr (Nat.le_trans I.sz hb),fun x c e z=>?_,fun p hp z=>?_⟩
 ·obtain ⟨v,q⟩:=I.cell x c e
  exact absurd (Nat.lt_of_lt_of_le q.lt (by rw [z]; exact hb)) (Nat.lt_irrefl _)
 ·exact absurd (Nat.lt_of_lt_of_le (Heap.lt_size (I.pin p hp).1) (by rw [z]; exact hb)) (Nat.lt_irrefl _)
abbrev uD (X:Cx):Prop:=X.calm=true
structure y3 (gd:Cx->Prop) (P:Program) (w:World) (K:PySem.W.Frag) (tg:Expr) (J:It) (fp:List Addr) (it:Addr) (tn:Nat->Heap->Prop):Prop where
 mem:it∈fp
 obj:∀ i h,tn i h->∀ b∈fp,∃ o,h.get? b=some o /\ ∀ v,o.data≠.cell v
 keep:∀ i h h',tn i h->(∀ b∈fp,∀ o,h.get? b=some o->h'.get? b=some o)->tn i h'
 item:∀ (X:Cx),X.prog=P->X.w=w->X.K=K->gd X->∀ (i:Nat) (pins:List (Addr×Obj)) (s:Shared) (σ:St) (H:Hp) (E:Value->Shared->Prop),Inv X pins σ H s->(∀ b∈fp,n8 X pins H b)->tn i s.heap->J.go i H->
  wpAny (model P w) X.A (pyNext (.ref it)) (fun r s1=>∃ u,r=some u /\
   wpAny (model P w) X.A (letOwnedTupleGo tg (.ref it) u) (fun _ s2=>∃ x H',Inv X pins σ H' s2 /\ RelV x u /\ J.LR i H x H' /\ tn (i + 1) s2.heap /\ ∀ b∈fp,H' b=none) E s1) E s
 done:∀ (X:Cx),X.prog=P->X.w=w->X.K=K->gd X->∀ (i:Nat) (pins:List (Addr×Obj)) (s:Shared) (σ:St) (H:Hp) (E:Value->Shared->Prop),Inv X pins σ H s->(∀ b∈fp,n8 X pins H b)->tn i s.heap->J.stop i H->
  wpAny (model P w) X.A (pyNext (.ref it)) (fun r s1=>r=none /\ Inv X pins σ H s1) E s
 self:∀ (A:Around) (i:Nat) (s:Shared) (Q:Value->Shared->Prop) (E:Value->Shared->Prop),tn i s.heap->Q (.ref it) s->wpAny (model P w) A (pyIter (.ref it)) Q E s
abbrev Turn:=y3 uD
abbrev TI:=St->Hp->(It->Hp->Prop)->Prop
def BM (gd:Cx->Prop) (X:Cx) (pins:List (Addr×Obj)) (σ:St) (tg:Expr) (R:It->Hp->Prop) (EO:Value) (s2:Shared):Prop:=
 ∃ (it:Addr) (fp:List Addr) (tn:Nat->Heap->Prop) (J:It) (H':Hp),EO=.ref it /\ Inv X pins σ H' s2 /\ y3 gd X.prog X.w X.K tg J fp it tn /\ tn 0 s2.heap /\ (∀ b∈fp,n8 X pins H' b) /\ R J H'
abbrev VS:=BM uD
def LU (gd:Cx->Prop) (X:Cx) (tg iter:Expr) (wi:TI):Prop:=
 ∀ (pins:List (Addr×Obj)) (s:Shared) (σ:St) (H:Hp) (R:It->Hp->Prop),Inv X pins σ H s->wi σ H R->
   wpAny (model X.prog X.w) X.A (eval iter X.env) (fun v s1=>wpAny (model X.prog X.w) X.A (pyIter v) (BM gd X pins σ tg R) X.xe s1) X.xe s
abbrev PI:=LU uD
theorem uE {M:Model} {A:Around} {E:Value->Shared->Prop} {s:Shared} {tg:Expr} {it:Addr} {u:Value} {o:Obj} {n:String} {vs:Array Value} {Q:Unit->Shared->Prop} (ho:s.heap.get? it=some o) (hc:o.cls=.type n) (hd:o.data=.fields vs)
  (hn:["enumerate","zip","dict_itemiterator","dict_reverseitemiterator","odict_iterator","itertools.zip_longest","itertools.pairwise"].contains n=false) (hQ:Q () s):wpAny M A (letOwnedTupleGo tg (.ref it) u) Q E s:=by
 unfold letOwnedTupleGo
 cases tg <;> first
  | exact wpAny_pure hQ
  | (cases u <;> first
    | exact wpAny_pure hQ
    | (refine wpAny_bind (wpAny_load ho ?_)
       rw [hc,hd]
       show wpAny M A (if (["enumerate","zip","dict_itemiterator","dict_reverseitemiterator","odict_iterator","itertools.zip_longest","itertools.pairwise"].contains n && vs[0]? == some (rawInt _))=true then _ else _) Q E s
       rw [if_neg (by intro h; rw [hn,Bool.false_and] at h; cases h)]
       exact wpAny_pure hQ))
def Ux (K:PySem.W.Frag) (a:Addr):It:=
 ⟨fun i H=>∃ xs x,gN K H a xs /\ xs[i]?=some x,fun i H x H'=>H'=H /\ ∀ xs,gN K H a xs->xs[i]?=some x,fun i H=>∃ xs,gN K H a xs /\ xs.length<=i⟩
def Uy (K:PySem.W.Frag) (a:Addr):It:=
 ⟨fun i H=>∃ xs x,jB K H a xs /\ xs[i]?=some x,fun i H x H'=>H'=H /\ ∀ xs,jB K H a xs->xs[i]?=some x,fun i H=>∃ xs,jB K H a xs /\ xs.length<=i⟩
def LV (lo:Int) (n:Nat):It:=⟨fun i _=>i < n,fun i H x H'=>H'=H /\ x=.int (lo + i),fun i _=>n<=i⟩
theorem z5 {P:Program} {w:World} {K:PySem.W.Frag} {tg:Expr} (a it:Addr):Turn P w K tg (Ux K a) [it] it (fun i h=>h.IsListIter it a i) where
 mem:=by simp
 obj:=fun i h st b hb=>by
  have e:b=it:=by simpa using hb
  subst e
  obtain ⟨o,e,c,d⟩:=st
  exact ⟨o,e,fun v z=>by rw [d] at z; cases z⟩
 keep:=fun i h h' st k=>st.at fun o e=>k it (by simp) o e
 item:=by
  intro X hP hw hK hc i pins s σ H E I hf st hg
  subst hP hw hK
  obtain ⟨xs,x,hq,hx⟩:=hg
  obtain ⟨its,rv,p,hz⟩:=I.list hq
  obtain ⟨u,hu,ru⟩:=rv.get hx
  obtain ⟨f0,f1,f2,f3,f4,f5⟩:=hf it (by simp)
  refine wpAny_pyNext_list_item st p.isList (x:=u) (by simpa using hu) fun h' nI sb=>?_
  have I1:Inv X pins σ H { s with heap:=h' }:=I.turned (t':=s.toks) (fun b o hb e=>(sb.2 b hb).trans e) f0 f1 f3 f4 f5
  obtain ⟨o,e,c,d⟩:=id nI
  exact ⟨u,rfl,uE (s:={ s with heap:=h' }) e c d (by decide) ⟨x,H,I1,ru,⟨rfl,fun ys hy=>by rw [I.lT hy hq]; exact hx⟩,nI,fun b hb=>(hf b hb).1⟩⟩
 done:=by
  intro X hP hw hK hc i pins s σ H E I hf st hg
  subst hP hw hK
  obtain ⟨xs,hq,hx⟩:=hg
  obtain ⟨its,rv,p,hz⟩:=I.list hq
  obtain ⟨f0,f1,f2,f3,f4,f5⟩:=hf it (by simp)
  have hl:=rv.length
  exact wpAny_pyNext_list_end (I.ok.hd hc) st p.isList (by simp; omega) fun h' eb=>⟨rfl,I.turned (t':=s.toks) (fun b o hb e=>eb b o hb e) f0 f1 f3 f4 f5⟩
 self:=fun _ _ _ _ _ st h=>wpAny_pyIter_listiter st h
theorem wV {P:Program} {w:World} {K:PySem.W.Frag} {tg:Expr} (a it:Addr):Turn P w K tg (Uy K a) [it] it (fun i h=>h.IsTupleIter it a i) where
 mem:=by simp
 obj:=fun i h st b hb=>by
  have e:b=it:=by simpa using hb
  subst e
  obtain ⟨o,e,c,d⟩:=st
  exact ⟨o,e,fun v z=>by rw [d] at z; cases z⟩
 keep:=fun i h h' st k=>st.at fun o e=>k it (by simp) o e
 item:=by
  intro X hP hw hK hc i pins s σ H E I hf st hg
  subst hP hw hK
  obtain ⟨xs,x,hq,hx⟩:=hg
  obtain ⟨its,rv,p,hz⟩:=I.tuple hq
  obtain ⟨u,hu,ru⟩:=rv.get hx
  obtain ⟨f0,f1,f2,f3,f4,f5⟩:=hf it (by simp)
  refine wpAny_pyNext_tuple_item st (show s.heap.IsTuple a its.toArray from p) (x:=u) (by simpa using hu) fun h' nI sb=>?_
  have I1:Inv X pins σ H { s with heap:=h' }:=I.turned (t':=s.toks) (fun b o hb e=>(sb.2 b hb).trans e) f0 f1 f3 f4 f5
  obtain ⟨o,e,c,d⟩:=id nI
  exact ⟨u,rfl,uE (s:={ s with heap:=h' }) e c d (by decide) ⟨x,H,I1,ru,⟨rfl,fun ys hy=>by rw [I.mP hy hq]; exact hx⟩,nI,fun b hb=>(hf b hb).1⟩⟩
 done:=by
  intro X hP hw hK hc i pins s σ H E I hf st hg
  subst hP hw hK
  obtain ⟨xs,hq,hx⟩:=hg
  obtain ⟨its,rv,p,hz⟩:=I.tuple hq
  obtain ⟨f0,f1,f2,f3,f4,f5⟩:=hf it (by simp)
  have hl:=rv.length
  exact wpAny_pyNext_tuple_end (I.ok.hd hc) st (show s.heap.IsTuple a its.toArray from p) (by simp; omega) fun h' eb=>⟨rfl,I.turned (t':=s.toks) (fun b o hb e=>eb b o hb e) f0 f1 f3 f4 f5⟩
 self:=fun _ _ _ _ _ st h=>wpAny_pyIter_tupleiter st h
theorem wW {P:Program} {w:World} {K:PySem.W.Frag} {tg:Expr} (it:Addr) (lo:Int) (n:Nat):Turn P w K tg (LV lo n) [it] it (fun i h=>IsRangeIter h it (lo + (i:Nat) * 1) ((n:Int) - (i:Nat)) 1) where
 mem:=by simp
 obj:=fun i h st b hb=>by
  have e:b=it:=by simpa using hb
  subst e
  exact ⟨_,st,fun v z=>by
   have z':Data.fields _=Data.cell v:=z
   cases z'⟩
 keep:=fun i h h' st k=>k it (by simp) _ st
 item:=by
  intro X hP hw hK hc i pins s σ H E I hf st hg
  subst hP hw hK
  obtain ⟨f0,f1,f2,f3,f4,f5⟩:=hf it (by simp)
  have W:=Walks.range (prog:=X.prog) (w:=X.w) (I.ok.hd hc) it lo 1 n
  refine W.item i s _ _ hg st fun v h' tk hv nI kk=>?_
  obtain ⟨t,rfl⟩:=hv
  have I1:Inv X pins σ H { s with heap:=h',toks:=tk }:=I.turned (fun b o hb e=>kk b o (by simpa using hb) e) f0 f1 f3 f4 f5
  refine ⟨_,rfl,uE (s:={ s with heap:=h',toks:=tk }) (n:="range_iterator") nI rfl rfl (by decide) ⟨.int (lo + i),H,I1,⟨t,?_⟩,⟨rfl,rfl⟩,nI,fun b hb=>(hf b hb).1⟩⟩
  rw [Int.mul_one]
 done:=by
  intro X hP hw hK hc i pins s σ H E I hf st hg
  subst hP hw hK
  obtain ⟨f0,f1,f2,f3,f4,f5⟩:=hf it (by simp)
  exact wpAny_pyNext_range_end (I.ok.hd hc) st (by have:n<=i:=hg; omega) fun h' eb=>⟨rfl,I.turned (t':=s.toks) (fun b o hb e=>eb b o hb e) f0 f1 f3 f4 f5⟩
 self:=fun _ _ _ _ _ st h=>wpAny_pyIter_rangeiter st h
section
variable {X:Cx} {tg:Expr}
theorem uF {pins:List (Addr×Obj)} {σ:St} {H:Hp} {s:Shared} {R:It->Hp->Prop} {E:Value->Shared->Prop} {lo hi:Int} {t u v:Tok} {tk:Nat} (I:Inv X pins σ H s) (h1: -(2 ^ 62)<=lo) (h2:lo < 2 ^ 62) (h3: -(2 ^ 62)<=hi) (h4:hi < 2 ^ 62)
  (q:R (LV lo (hi - lo).toNat) H):wpAny (model X.prog X.w) X.A (pyIter (.ref s.heap.objs.size)) (VS X pins σ tg R) E { s with heap:=s.heap.push { cls:=.type "range",data:=.fields #[.int lo t,.int hi u,.int 1 v] },toks:=tk }:=by
 refine wpAny_pyIter_range (IsRange.new ..) (small_one h1 h2 h3 h4) ?_
 have I1:Inv X pins σ H { s with heap:=s.heap.push { cls:=.type "range",data:=.fields #[.int lo t,.int hi u,.int 1 v] },toks:=tk }:=I.kept fun b o e=>Heap.get?_push_of_some _ e
 refine ⟨(s.heap.push { cls:=.type "range",data:=.fields #[.int lo t,.int hi u,.int 1 v] }).objs.size,[(s.heap.push { cls:=.type "range",data:=.fields #[.int lo t,.int hi u,.int 1 v] }).objs.size],_,_,H,rfl,
  I1.kept (t':=tk) fun b o e=>Heap.get?_push_of_some _ e,wW _ lo (hi - lo).toNat,?_,fun b hb=>?_,q⟩
 ·have e1:lo + ((0:Nat):Int) * 1=lo:=by simp
  have e2:(((hi - lo).toNat:Nat):Int) - ((0:Nat):Int)=Builtin.Range.rangeSize lo hi 1:=by rw [rangeSize_one]; split <;> omega
  show IsRangeIter _ _ (lo + ((0:Nat):Int) * 1) ((((hi - lo).toNat:Nat):Int) - ((0:Nat):Int)) 1
  rw [e1,e2]
  exact Heap.get?_push_size _ rfl
 ·have e:b=(s.heap.push { cls:=.type "range",data:=.fields #[.int lo t,.int hi u,.int 1 v] }).objs.size:=by simpa using hb
  subst e
  exact I1.lU (Nat.le_refl _) (I1.be.fresh (Nat.le_refl _))
def LW (ta:TA):TI:=fun σ H R=>ta σ H fun vs H1=>∃ j:Int,vs=[.int j] /\ -(2 ^ 62)<=j /\ j < 2 ^ 62 /\ R (LV 0 j.toNat) H1
def LX (ta:TA):TI:=fun σ H R=>ta σ H fun vs H1=>∃ i j:Int,vs=[.int i,.int j] /\ (-(2 ^ 62)<=i /\ i < 2 ^ 62 /\ -(2 ^ 62)<=j /\ j < 2 ^ 62) /\ R (LV i (j - i).toNat) H1
theorem z6 {a:Expr} {ta:TA} {p pos:Pos} (hg:Gl X "range") (hm:X.mg "range"=none) (ha:PA X [a] ta) (hs:starEach [a] X.env=[(false,eval a X.env)]:=by rfl):PI X tg (.Call (.Name "range" p) [a] [] pos) (LW ta):=by
 intro pins s σ H R I h
 refine Call_ (fK I hg hm boot_range (PyProof.Rows.callWith_type1 (cO (ha pos pins s σ H _ I h) fun us s1 ⟨vs,H1,I1,r1,q1⟩=>?_) hs rfl))
 obtain ⟨j,e,q1,q2,q⟩:=q1
 subst e
 cases r1 with
 | cons r rr=>
   cases rr
   obtain ⟨t,rfl⟩:=r
   exact call_range_1 (uF I1 (by omega) (by omega) q1 q2 (by simpa using q))
theorem z7 {a b:Expr} {ta:TA} {p pos:Pos} (hg:Gl X "range") (hm:X.mg "range"=none) (ha:PA X [a,b] ta) (hs:starEach [a,b] X.env=[(false,eval a X.env),(false,eval b X.env)]:=by rfl) (kb:starEach [b] X.env=[(false,eval b X.env)]:=by rfl):
  PI X tg (.Call (.Name "range" p) [a,b] [] pos) (LX ta):=by
 intro pins s σ H R I h
 refine Call_ (fK I hg hm boot_range (PyProof.Rows.callWith_type1 (cO (ha pos pins s σ H _ I h) fun us s1 ⟨vs,H1,I1,r1,q1⟩=>?_) (by rw [hs,kb]) (by rw [kb]; rfl)))
 obtain ⟨i,j,e,⟨q1,q2,q3,q4⟩,q⟩:=q1
 subst e
 cases r1 with
 | cons r rr=>
   cases rr with
   | cons r' rr=>
     cases rr
     obtain ⟨t,rfl⟩:=r
     obtain ⟨t',rfl⟩:=r'
     exact call_range_2 (uF I1 q1 q2 q3 q4 q)
def OR (wi:TI) (g:TG) (tb:TS):TS:=fun D σ H=>wi σ H fun J H1=>∃ W:Nat->Nat->St->Hp->Prop,(∃ m,W 0 m σ H1) /\ ∀ i m σ H,W i m σ H->
 (J.stop i H /\ D.nx σ H) \/ (J.go i H /\ ∃ N:St->Hp->Prop,(∀ cb H',N cb H'->∃ m',m' < m /\ W (i + 1) m' cb H') /\ ∀ x H',J.LR i H x H'->g x σ H' fun VT H2=>tb { D with nx:=N,ct:=N,bk:=D.nx } VT H2)
def la (fp:List Addr) (h:Heap):List (Addr×Obj):=fp.filterMap fun b=>(h.get? b).map fun o=>(b,o)
theorem fL {fp:List Addr} {h:Heap} {b:Addr} {o:Obj} (hb:b∈fp) (e:h.get? b=some o):(b,o)∈la fp h:=List.mem_filterMap.mpr ⟨b,hb,by rw [e]; rfl⟩
theorem qR {fp:List Addr} {h:Heap} {p:Addr×Obj} (hp:p∈la fp h):p.1∈fp /\ h.get? p.1=some p.2:=by
 obtain ⟨b,hb,e⟩:=List.mem_filterMap.mp hp
 cases q:h.get? b with
 | none=>rw [q] at e; cases e
 | some o=>
   rw [q] at e
   have e':(b,o)=p:=Option.some.inj e
   subst e'
   exact ⟨hb,q⟩
theorem Inv.pinned {pins:List (Addr×Obj)} {σ:St} {H:Hp} {s:Shared} {fp:List Addr} (I:Inv X pins σ H s) (hf:∀ b∈fp,n8 X pins H b) (ho:∀ b∈fp,∃ o,s.heap.get? b=some o /\ ∀ v,o.data≠.cell v):Inv X (pins ++ la fp s.heap) σ H s:=
 I.kK fun p hp=>(List.mem_append.mp hp).elim (fun z=>I.pin p (List.mem_append_right _ z)) fun z=>by
  obtain ⟨hb,e⟩:=qR z
  obtain ⟨f0,f1,f2,_⟩:=hf p.1 hb
  obtain ⟨o,e',d⟩:=ho p.1 hb
  rw [e] at e'; cases e'
  exact ⟨e,f0,f1,f2,d⟩
theorem Inv.oH {pins pl:List (Addr×Obj)} {σ:St} {H:Hp} {s:Shared} (I:Inv X (pins ++ pl) σ H s):Inv X pins σ H s:=I.kK fun p hp=>I.pin p (List.mem_append_right _ (List.mem_append_left _ hp))
theorem IM {iter:Expr} {body:List Stmt} {wi:TI} {g:TG} {tb:TS} {pos:Pos} (hp:PassesOwn (model X.prog X.w) X.A X.env X.xe) (hc:X.calm=true) (hi:PI X tg iter wi) (hg:PG X tg g) (hb:jy X body tb)
  (hs:∀ x,foldedSetIterable iter X.env x=pure x:=by intro _; rfl):PS X (.For tg iter body [] pos) (OR wi g tb):=by
 intro pins s σ H D I h
 refine wpAny_For (cO (hi pins s σ H _ I h) fun v s1 h1=>cO h1 fun EO s2 h2=>?_) hs
 obtain ⟨it,fp,tn,J,H2,e,I2,T,gn,f2,W,⟨m0,w0⟩,turn⟩:=h2
 subst e
 have wX:∀ {H':Hp},(∀ b∈fp,H' b=none)->∀ b∈fp,n8 X pins H' b:=fun hn b hb=>⟨hn b hb,(f2 b hb).2⟩
 refine codeAny_forLoop_any (fun n s'=>∃ i cb H',Inv X pins cb H' s' /\ tn i s'.heap /\ (∀ b∈fp,H' b=none) /\ W i n cb H') ?_ m0 ⟨0,σ,H2,I2,gn,fun b hb=>(f2 b hb).1,w0⟩
 rintro n s3 ⟨i,BL,H3,I3,BN,Uz,w3⟩
 rcases turn i n BL H3 w3 with ⟨stop,qn⟩ | ⟨go,N,hN,step⟩
 ·refine wpAny_passesOwn hp (cO (T.done X rfl rfl rfl hc i pins s3 BL H3 X.xe I3 (wX Uz) BN stop) fun r s4 ⟨hr,I4⟩=>?_)
  subst hr
  exact wpAny_execs_nil ⟨BL,H3,I4,qn⟩
 ·refine wpAny_passesOwn hp (cO (T.item X rfl rfl rfl hc i pins s3 BL H3 X.xe I3 (wX Uz) BN go) fun r s4 ⟨u,hr,h4⟩=>?_)
  subst hr
  refine wpAny_passesOwn hp (cO h4 fun _ s5 ⟨x,H5,I5,r5,y5,Fd,OS⟩=>?_)
  have OT:=I5.pinned (wX OS) (T.obj _ _ Fd)
  refine wpAny_passesOwn hp (cO (hg _ s5 BL H5 x u _ OT r5 (step x H5 y5)) fun _ s6 ⟨VU,H6,I6,q6⟩=>?_)
  refine wpAny_passesOwn hp (cO (hb _ s6 VU H6 _ I6 q6) fun f s7 q7=>?_)
  have again:∀ {BO:St} {H7:Hp},Inv X (pins ++ la fp s5.heap) BO H7 s7->N BO H7->∃ m,m < n /\ ∃ i cb H',Inv X pins cb H' s7 /\ tn i s7.heap /\ (∀ b∈fp,H' b=none) /\ W i m cb H':=fun {BO H7} I7 n7=>by
   obtain ⟨m',hm,w7⟩:=hN BO H7 n7
   refine ⟨m',hm,i + 1,BO,H7,I7.oH,T.keep _ _ _ Fd fun b hb o e=>(I7.pin (b,o) (List.mem_append_right _ (List.mem_append_right _ (fL hb e)))).1,fun b hb=>?_,w7⟩
   obtain ⟨o,e,d⟩:=T.obj _ _ Fd b hb
   exact (I7.pin (b,o) (List.mem_append_right _ (List.mem_append_right _ (fL hb e)))).2.1
  cases f with
  | next=>obtain ⟨BO,H7,I7,n7⟩:=q7; exact again I7 n7
  | cont=>obtain ⟨BO,H7,I7,n7⟩:=q7; exact again I7 n7
  | brk=>obtain ⟨BO,H7,I7,q7⟩:=q7; exact ⟨BO,H7,I7.oH,q7⟩
  | ret v=>obtain ⟨x7,BO,H7,I7,r7,q7⟩:=q7; exact ⟨x7,BO,H7,I7.oH,r7,q7⟩
end
abbrev R2:=V->V->Hp->VK->Prop
def gT (X:Cx) (f:Value->Value->Sem Value) (r:R2):Prop:=
 ∀ (pins:List (Addr×Obj)) (s:Shared) (σ:St) (H:Hp) (x y:V) (v u:Value) (Q:VK),Inv X pins σ H s->RelV x v->RelV y u->r x y H Q->
   wpAny (model X.prog X.w) X.A (f v u) (EP X pins σ Q) X.xe s
def OU (X:Cx) (f:Value->Sem Value) (r:V->Hp->VK->Prop):Prop:=
 ∀ (pins:List (Addr×Obj)) (s:Shared) (σ:St) (H:Hp) (x:V) (v:Value) (Q:VK),Inv X pins σ H s->RelV x v->r x H Q->
   wpAny (model X.prog X.w) X.A (f v) (EP X pins σ Q) X.xe s
def ee (X:Cx) (f:Value) (r:List V->Hp->VK->Prop):Prop:=
 ∀ (pins:List (Addr×Obj)) (s:Shared) (σ:St) (H:Hp) (xs:List V) (us:List Value) (Q:VK),Inv X pins σ H s->a4 xs us->r xs H Q->
   wpAny (model X.prog X.w) X.A (call f us) (EP X pins σ Q) X.xe s
def OV (X:Cx) (r:V->Hp->(Bool->Hp->Prop)->Prop):Prop:=
 ∀ (pins:List (Addr×Obj)) (s:Shared) (σ:St) (H:Hp) (x:V) (v:Value) (Q:Bool->Hp->Prop),Inv X pins σ H s->RelV x v->r x H Q->
   wpAny (model X.prog X.w) X.A (truthy v) (TP X pins σ Q) X.xe s
def Lb (r:R2) (ta tb:TE):TE:=fun σ H Q=>ta σ H fun x H1=>tb σ H1 fun y H2=>r x y H2 Q
def VW (r:V->Hp->VK->Prop) (ta:TE):TE:=fun σ H Q=>ta σ H fun x H1=>r x H1 Q
def rI (C:Int->Int->Prop) (g:Int->Int->V):R2:=fun x y H Q=>∃ i j,x=.int i /\ y=.int j /\ C i j /\ Q (g i j) H
def Bm (g:Int->Int->V):R2:=fun x y H Q=>∃ i j,x=.int i /\ y=.int j /\ Q (g i j) H
def rU (g:Int->V):V->Hp->VK->Prop:=fun x H Q=>∃ i,x=.int i /\ Q (g i) H
section
variable {X:Cx} {a b c:Expr} {ta tb tc:TE} {pos:Pos}
theorem IP (ha:PE X a ta) (hb:PE X b tb) {pins:List (Addr×Obj)} {s:Shared} {σ:St} {H:Hp} {R:V->V->Hp->Prop} (I:Inv X pins σ H s)
  (h:ta σ H fun x H1=>tb σ H1 fun y H2=>R x y H2) {Q:Value->Shared->Prop} {f:Value->Value->Sem Value}
  (hf:∀ v u s2 x y H2,Inv X pins σ H2 s2->RelV x v->RelV y u->R x y H2->wpAny (model X.prog X.w) X.A (f v u) Q X.xe s2):
  wpAny (model X.prog X.w) X.A (eval a X.env) (fun v bf=>wpAny (model X.prog X.w) X.A (eval b X.env) (fun u jA=>wpAny (model X.prog X.w) X.A (f v u) Q X.xe jA) X.xe bf) X.xe s:=by
 refine cO (ha pins s σ H _ I h) fun v s1 ⟨x,H1,I1,r1,q1⟩=>?_
 refine cO (hb pins s1 σ H1 _ I1 q1) fun u s2 ⟨y,H2,I2,r2,q2⟩=>?_
 exact hf v u s2 x y H2 I2 r1 r2 q2
theorem Hu {op:Operator} {r:R2} (ho:gT X (binaryOp op) r) (ha:PE X a ta) (hb:PE X b tb):PE X (.BinOp a op b pos) (Lb r ta tb):=by
 intro pins s σ H Q I h
 exact wpAny_BinOp (IP ha hb I h fun v u s2 x y H2 I2 rx ry q=>ho pins s2 σ H2 x y v u Q I2 rx ry q)
theorem LY {op:UnaryOp} {r:V->Hp->VK->Prop} (ho:OU X (unaryOp op) r) (ha:PE X a ta):PE X (.UnaryOp op a pos) (VW r ta):=by
 intro pins s σ H Q I h
 exact UnaryOp_ (cO (ha pins s σ H _ I h) fun v s1 ⟨x,H1,I1,r1,q1⟩=>ho pins s1 σ H1 x v Q I1 r1 q1)
theorem LZ {f:Value->Value->Sem Value} {C:Int->Int->Prop} {g:Int->Int->Int}
  (rule:∀ (i j:Int) (t u:Tok) (s:Shared) (Q:Value->Shared->Prop) (E:Value->Shared->Prop),C i j->Q (.int (g i j) s.toks) { s with toks:=s.toks + 1 }->wpAny (model X.prog X.w) X.A (f (.int i t) (.int j u)) Q E s):
  gT X f (rI C fun i j=>.int (g i j)):=by
 intro pins s σ H x y v u Q I rx ry h
 obtain ⟨i,j,rfl,rfl,hc,q⟩:=h
 obtain ⟨t,rfl⟩:=rx
 obtain ⟨t',rfl⟩:=ry
 exact rule i j t t' s _ _ hc ⟨.int (g i j),H,I.tok _,⟨_,rfl⟩,q⟩
theorem IQ {f:Value->Value->Sem Value} {g:Int->Int->Int}
  (rule:∀ (i j:Int) (t u:Tok) (s:Shared) (Q:Value->Shared->Prop) (E:Value->Shared->Prop),Q (.int (g i j) s.toks) { s with toks:=s.toks + 1 }->wpAny (model X.prog X.w) X.A (f (.int i t) (.int j u)) Q E s):
  gT X f (Bm fun i j=>.int (g i j)):=by
 intro pins s σ H x y v u Q I rx ry h
 obtain ⟨i,j,rfl,rfl,q⟩:=h
 obtain ⟨t,rfl⟩:=rx
 obtain ⟨t',rfl⟩:=ry
 exact rule i j t t' s _ _ ⟨.int (g i j),H,I.tok _,⟨_,rfl⟩,q⟩
theorem Fe {f:Value->Value->Sem Value} {g:Int->Int->Bool}
  (rule:∀ (i j:Int) (t u:Tok) (s:Shared) (Q:Value->Shared->Prop) (E:Value->Shared->Prop),Q (.bool (g i j)) s->wpAny (model X.prog X.w) X.A (f (.int i t) (.int j u)) Q E s):
  gT X f (Bm fun i j=>.bl (g i j)):=by
 intro pins s σ H x y v u Q I rx ry h
 obtain ⟨i,j,rfl,rfl,q⟩:=h
 obtain ⟨t,rfl⟩:=rx
 obtain ⟨t',rfl⟩:=ry
 exact rule i j t t' s _ _ ⟨.bl (g i j),H,I,rfl,q⟩
def IS (i j:Int):Prop:=0<=j /\ j<=1000000 /\ i.natAbs < 2 ^ 64
theorem wY (k:Nat):(0:Int)<=2 ^ k:=by
 rw [two_pow_cast]
 exact Int.natCast_nonneg _
theorem IT:gT X (binaryOp .Add) (Bm fun i j=>.int (i + j)):=IQ fun _ _ _ _ _ _ _ q=>add_int q
theorem ij:gT X (binaryOp .Sub) (Bm fun i j=>.int (i - j)):=IQ fun _ _ _ _ _ _ _ q=>sub_int q
theorem cB:gT X (binaryOp .Mod) (rI (fun _ j=>j≠0) fun i j=>.int (i.fmod j)):=LZ fun _ _ _ _ _ _ _ hc q=>mod_int' hc q
theorem wZ:gT X (binaryOp .Pow) (rI IS fun i j=>.int (i ^ j.toNat)):=LZ fun _ _ _ _ _ _ _ hc q=>pow_int_small hc.1 hc.2.1 hc.2.2 q
theorem IU:gT X (binaryOp .RShift) (rI (fun _ j=>0<=j) fun i j=>.int (i / 2 ^ j.toNat)):=LZ fun i j _ _ _ _ _ hc q=>
 rshift_int hc (by rw [Int.fdiv_eq_ediv_of_nonneg i (wY _)]; exact q)
theorem IV:gT X (binaryOp .BitAnd) (Bm fun i j=>.int (Builtin.bitAnd i j)):=IQ fun _ _ _ _ _ _ _ q=>and_int q
theorem VX {f:Value->Sem Value} {g:Int->Int}
  (rule:∀ (i:Int) (t:Tok) (s:Shared) (Q:Value->Shared->Prop) (E:Value->Shared->Prop),Q (.int (g i) s.toks) { s with toks:=s.toks + 1 }->wpAny (model X.prog X.w) X.A (f (.int i t)) Q E s):
  OU X f (rU fun i=>.int (g i)):=by
 intro pins s σ H x v Q I rx h
 obtain ⟨i,rfl,q⟩:=h
 obtain ⟨t,rfl⟩:=rx
 exact rule i t s _ _ ⟨.int (g i),H,I.tok _,⟨_,rfl⟩,q⟩
theorem IW:OU X (unaryOp .USub) (rU fun i=>.int (-i)):=VX fun _ _ _ _ _ q=>neg_int q
end
section
variable {X:Cx} {a b c:Expr} {ta tb tc:TE} {pos:Pos}
theorem qS:gT X (compareOp .Lt) (Bm fun i j=>.bl (decide (i < j))):=Fe fun _ _ _ _ _ _ _ q=>lt_int q
theorem BP:gT X (compareOp .LtE) (Bm fun i j=>.bl (decide (i<=j))):=Fe fun _ _ _ _ _ _ _ q=>le_int q
theorem uG:gT X (compareOp .Gt) (Bm fun i j=>.bl (decide (j < i))):=Fe fun _ _ _ _ _ _ _ q=>gt_int q
theorem L3:gT X (compareOp .GtE) (Bm fun i j=>.bl (decide (j<=i))):=Fe fun _ _ _ _ _ _ _ q=>ge_int q
theorem gT.or {f:Value->Value->Sem Value} {r r':R2} (h:gT X f r) (h':gT X f r'):gT X f (fun x y H Q=>r x y H Q \/ r' x y H Q):=by
 intro pins s σ H x y v u Q I rx ry q
 rcases q with q | q
 ·exact h pins s σ H x y v u Q I rx ry q
 ·exact h' pins s σ H x y v u Q I rx ry q
theorem bu (b:Expr) {op:CmpOp} (h:op≠.In:=by decide) (h2:op≠.NotIn:=by decide):behindInMarks op b=false:=by
 have e1:(op == CmpOp.In)=false:=by cases op <;> first | rfl | exact absurd rfl h
 have e2:(op == CmpOp.NotIn)=false:=by cases op <;> first | rfl | exact absurd rfl h2
 cases b <;> simp [behindInMarks,e1,e2]
theorem Ff {op:CmpOp} {r:R2} (ho:gT X (compareOp op) r) (ha:PE X a ta) (hb:PE X b tb) (hm:behindInMarks op b=false):PE X (.Compare a [op] [b] pos) (Lb r ta tb):=by
 intro pins s σ H Q I h
 exact wpAny_Compare1 (IP ha hb I h fun v u s2 x y H2 I2 rx ry q=>ho pins s2 σ H2 x y v u Q I2 rx ry q) hm
def Hv (t:TE):TT:=fun σ H Q=>t σ H fun x H'=>∃ k,x=.bl k /\ Q k H'
theorem Fg {op:CmpOp} {r:R2} (ho:gT X (compareOp op) r) (ha:PE X a ta) (hb:PE X b tb) (hm:behindInMarks op b=false):PT X (.Compare a [op] [b] pos) (Hv (Lb r ta tb)):=by
 intro pins s σ H Q I h
 refine wpAny_isTrue_Compare1 (cO (ha pins s σ H _ I h) fun v s1 ⟨x,H1,I1,r1,q1⟩=>cO (hb pins s1 σ H1 _ I1 q1) fun u s2 ⟨y,H2,I2,r2,q2⟩=>
  cO (ho pins s2 σ H2 x y v u _ I2 r1 r2 q2) fun c s3 ⟨z,H3,I3,r3,k,e,q3⟩=>?_) hm
 subst e
 cases r3
 exact wpAny_truthy_bool ⟨H3,I3,q3⟩
def w4 (r r':R2) (ta tb tc:TE):TE:=fun σ H Q=>ta σ H fun x H1=>tb σ H1 fun y H2=>r x y H2 fun z H3=>∃ k,z=.bl k /\
 (if k=true then tc σ H3 fun w' H4=>r' y w' H4 Q else Q (.bl false) H3)
theorem BQ {op w5:CmpOp} {r r':R2} (ho:gT X (compareOp op) r) (uo:gT X (compareOp w5) r') (ha:PE X a ta) (hb:PE X b tb) (hc:PE X c tc)
  (hm:lastMarks [op,w5] [b,c]=false:=by with_unfolding_all rfl):PE X (.Compare a [op,w5] [b,c] pos) (w4 r r' ta tb tc):=by
 intro pins s σ H Q I h
 refine Compare_chain (cO (ha pins s σ H _ I h) fun v s1 ⟨x,H1,I1,r1,q1⟩=>chain_link (cO (hb pins s1 σ H1 _ I1 q1) fun u s2 ⟨y,H2,I2,r2,q2⟩=>
  cO (ho pins s2 σ H2 x y v u _ I2 r1 r2 q2) fun d s3 ⟨z,H3,I3,r3,k,e,q3⟩=>?_)) hm
 subst e
 cases r3
 refine wpAny_truthy_bool ?_
 cases k with
 | false=>exact ite_ff ⟨.bl false,H3,I3,rfl,q3⟩
 | true=>exact ite_tt (chain_last (cO (hc pins s3 σ H3 _ I3 q3) fun w' s4 ⟨z',H4,I4,r4,q4⟩=>uo pins s4 σ H4 y z' u w' Q I4 r2 r4 q4))
theorem BR {op w5:CmpOp} {r r':R2} (ho:gT X (compareOp op) r) (uo:gT X (compareOp w5) r') (ha:PE X a ta) (hb:PE X b tb) (hc:PE X c tc)
  (hm:lastMarks [op,w5] [b,c]=false:=by with_unfolding_all rfl):PT X (.Compare a [op,w5] [b,c] pos) (Hv (w4 r r' ta tb tc)):=by
 intro pins s σ H Q I h
 refine isTrue_chain (cO (ha pins s σ H _ I h) fun v s1 ⟨x,H1,I1,r1,q1⟩=>test_link (cO (hb pins s1 σ H1 _ I1 q1) fun u s2 ⟨y,H2,I2,r2,q2⟩=>
  cO (ho pins s2 σ H2 x y v u _ I2 r1 r2 q2) fun d s3 ⟨z,H3,I3,r3,k,e,q3⟩=>?_)) hm
 subst e
 cases r3
 refine wpAny_truthy_bool ?_
 cases k with
 | false=>
   obtain ⟨k',e',q'⟩:=q3
   cases e'
   exact ite_ff ⟨H3,I3,q'⟩
 | true=>
   refine ite_tt (test_last (cO (hc pins s3 σ H3 _ I3 q3) fun w' s4 ⟨z',H4,I4,r4,q4⟩=>cO (uo pins s4 σ H4 y z' u w' _ I4 r2 r4 q4) fun d' s5 ⟨z2,H5,I5,r5,k2,e2,q5⟩=>?_))
   subst e2
   cases r5
   exact wpAny_truthy_bool ⟨H5,I5,q5⟩
def L4 (K:PySem.W.Frag) (x:V) (H:Hp) (k:Bool):Prop:=
 match x with
 | .gM=>k=false
 | .bl b=>k=b
 | .int i=>k=(i != 0)
 | .str y=>y.length<=sizeLine /\ k=((y.length:Int) != 0)
 | .LC y=>y.size<=sizeLine /\ k=((y.size:Int) != 0)
 | .ref p=>(∃ xs,gN K H p xs /\ k= !xs.isEmpty) \/ (∃ xs,jB K H p xs /\ k= !xs.isEmpty) \/ ∃ aF,H p=some (.dK aF) /\ k= !aF.isEmpty
 | _=>False
theorem w6 {κ:Type} {aF:List (κ×V)} {vs:List (κ×Value)} (r:KV aF vs):(!vs.isEmpty)= !aF.isEmpty:=by
 cases r <;> rfl
theorem oJ {xs:List V} {its:List Value} (r:a4 xs its):(!its.toArray.isEmpty)= !xs.isEmpty:=by
 cases r <;> simp
theorem mQ:(sizeLine:Nat) < 2 ^ 63:=by rw [sizeLine_eq]; decide
theorem IX:OV X (fun x H Q=>∃ k,L4 X.K x H k /\ Q k H):=by
 intro pins s σ H x v Q I rx h
 obtain ⟨k,e,q⟩:=h
 have hl:=mQ
 have hs:sizeLine=16777216:=sizeLine_eq
 cases x with
 | gM=>
   cases rx
   have e':k=false:=e
   subst e'
   exact truthy_none ⟨H,I,q⟩
 | bl b=>
   cases rx
   have e':k=b:=e
   subst e'
   exact wpAny_truthy_bool ⟨H,I,q⟩
 | int i=>
   obtain ⟨t,rfl⟩:=rx
   have e':k=(i != 0):=e
   subst e'
   exact PySem.P.truthy_int ⟨H,I,q⟩
 | str y=>
   obtain ⟨t,rfl⟩:=rx
   obtain ⟨hy,e'⟩:y.length<=sizeLine /\ k=((y.length:Int) != 0):=e
   subst e'
   exact PySem.P.truthy_str (by omega) ⟨H,I.tok _,q⟩
 | LC y=>
   obtain ⟨t,rfl⟩:=rx
   obtain ⟨hy,e'⟩:y.size<=sizeLine /\ k=((y.size:Int) != 0):=e
   subst e'
   exact PySem.W.truthy_bytes (by omega) ⟨H,I.tok _,q⟩
 | ref p=>
   cases rx
   have e':(∃ xs,gN X.K H p xs /\ k= !xs.isEmpty) \/ (∃ xs,jB X.K H p xs /\ k= !xs.isEmpty) \/ ∃ aF,H p=some (.dK aF) /\ k= !aF.isEmpty:=e
   rcases e' with ⟨xs,hx,e'⟩ | ⟨xs,hx,e'⟩ | ⟨aF,hx,e'⟩
   ·subst e'
    obtain ⟨its,r,pl,hz⟩:=I.list hx
    have hlen:=r.length
    exact wpAny_truthy_list pl.isList (by simp only [List.size_toArray]; omega) ⟨H,I.tok _,by rw [oJ r]; exact q⟩
   ·subst e'
    obtain ⟨its,r,pl,hz⟩:=I.tuple hx
    have hlen:=r.length
    exact truthy_tuple pl (by simp only [List.size_toArray]; omega) ⟨H,I.tok _,by rw [oJ r]; exact q⟩
   ·subst e'
    obtain ⟨hz,hS,vs,r,m⟩:aF.length<=sizeLine /\ (p == sysModules)=false /\ ∃ vs,KV aF vs /\ s.heap.DictOf (cP X.prog X.w) p vs:=I.be p _ hx
    have hlen:aF.length=vs.length:=Paired.length r
    exact wpAny_truthy_dict hS m (by omega) ⟨H,I.tok _,by rw [w6 r]; exact q⟩
 | _=>exact (show False from e).elim
theorem BS (ha:PE X a ta) (he:∀ whole,isTrue a X.env whole=(do let v <- whole; standAt a.pos; holding [v] (truthy v))):
  PT X a (fun σ H Q=>ta σ H fun x H'=>∃ k,L4 X.K x H' k /\ Q k H'):=by
 intro pins s σ H Q I h
 exact isTrue_plain (cO (ha pins s σ H _ I h) fun v s1 ⟨x,H1,I1,r1,q1⟩=>IX pins s1 σ H1 x v Q I1 r1 q1) (he _)
theorem w8:gT X (binaryOp .Add) (fun x y H Q=>∃ i j,x=.str i /\ y=.str j /\ i.length + j.length<=sizeLine /\ Q (.str (i ++ j)) H):=by
 intro pins s σ H x y v u Q I rx ry h
 obtain ⟨i,j,rfl,rfl,hz,q⟩:=h
 obtain ⟨t,rfl⟩:=rx
 obtain ⟨t',rfl⟩:=ry
 exact add_str (fun t' tk=>⟨.str (i ++ j),H,I.tok _,⟨_,rfl⟩,q⟩) hz
theorem vals1 {x:V} {us:List Value} (r:a4 [x] us):∃ u,us=[u] /\ RelV x u:=by
 cases r with
 | cons r1 r2=>cases r2; exact ⟨_,rfl,r1⟩
theorem vals2 {x y:V} {us:List Value} (r:a4 [x,y] us):∃ u w',us=[u,w'] /\ RelV x u /\ RelV y w':=by
 cases r with
 | cons r1 r2=>
   cases r2 with
   | cons r3 r4=>cases r4; exact ⟨_,_,rfl,r1,r3⟩
theorem BU:ee X (.builtin "abs") (fun xs H Q=>∃ i,xs=[.int i] /\ Q (.int (if i < 0 then -i else i)) H):=by
 intro pins s σ H xs us Q I r h
 obtain ⟨i,rfl,q⟩:=h
 obtain ⟨u,rfl,t,rfl⟩:=vals1 r
 exact call_abs_int fun u tk=>⟨.int (if i < 0 then -i else i),H,I.tok _,⟨_,rfl⟩,q⟩
theorem qT (hc:X.calm=true):ee X (.builtin "max") (fun xs H Q=>∃ i j,xs=[.int i,.int j] /\ Q (.int (if j > i then j else i)) H):=by
 intro pins s σ H xs us Q I r h
 obtain ⟨i,j,rfl,q⟩:=h
 obtain ⟨u,w',rfl,⟨t,rfl⟩,⟨t',rfl⟩⟩:=vals2 r
 refine max_two_ints (I.ok.hd hc) fun h' tk k=>⟨_,H,I.kept k,?_,q⟩
 by_cases hj:j > i
 ·rw [if_pos hj,if_pos hj]; exact ⟨_,rfl⟩
 ·rw [if_neg hj,if_neg hj]; exact ⟨_,rfl⟩
theorem z8:ee X (.type "int") (fun xs H Q=>(∃ i,xs=[.int i] /\ Q (.int i) H) \/ ∃ k,xs=[.bl k] /\ Q (.int (if k then 1 else 0)) H):=by
 intro pins s σ H xs us Q I r h
 rcases h with ⟨i,rfl,q⟩ | ⟨k,rfl,q⟩
 ·obtain ⟨u,rfl,t,rfl⟩:=vals1 r
  exact call_int_int ⟨.int i,H,I,⟨_,rfl⟩,q⟩
 ·obtain ⟨u,rfl,r1⟩:=vals1 r
  cases r1
  exact call_int_bool ⟨.int (if k then 1 else 0),H,I.tok _,⟨_,rfl⟩,q⟩
end
structure IY (h:Heap) (x dx C:Addr) (mA:Str->Option Value):Prop where
 obj:h.get? x=some (PySem.W.instObj C dx)
 ns:h.Ns1 dx mA
 ne:dx≠x
set_option tactic.hygienic true in
theorem z9 {h:Heap} {dx:Addr} {mA:Str->Option Value} (n:h.Ns1 dx mA):∃ od,h.get? dx=some od /\ ∀ name,PySem.W.lookIn name od=some (mA name):=by
 obtain ⟨o,es,ep,ho,hd,hk,_,hm⟩:=n
 refine ⟨o,ho,fun name=>?_⟩
 have e:=hm name
 unfold nsFind findBy at e
 rw [<- Array.find?_toList] at e
 unfold PySem.W.lookIn
 rw [hd]
 dsimp only
 split
 ·rename_i y q
  rw [q] at e
  exact congrArg some e
 ·rename_i q
  rw [q] at e
  have a:es.toList.any (·.refKey)=false:=by
   rw [List.any_eq_false]
   intro y hy
   obtain ⟨z,t,OW⟩:=hk y (Array.mem_toList_iff.mp hy)
   simp [DictEntry.refKey,OW]
  have a':¬ es.toList.any (·.refKey)=true:=by rw [a]; exact Bool.false_ne_true
  rw [if_neg a']
  exact congrArg some e
theorem IY.look {h:Heap} {x dx C:Addr} {mA:Str->Option Value} (I:IY h x dx C mA):∃ od,PySem.W.InstAt h x (PySem.W.instObj C dx) C (some od) /\ ∀ name,PySem.W.lookIn name od=some (mA name):=
 let ⟨od,ho,hl⟩:=z9 I.ns
 ⟨od,⟨I.obj,rfl,rfl,ho⟩,hl⟩
section
variable {prog:Program} {w:World} {A:Around} {E:Value->Shared->Prop} {s:Shared} {K:PySem.W.Frag} {x dx C f:Addr} {mA:Str->Option Value} {name:Str} {v:Value}
end
theorem mI.some_of {v:V} {o:Option Value} (r:mI (some v) o):∃ u,o=some u /\ RelV v u:=by
 cases o with
 | none=>exact (show False from r).elim
 | some u=>exact ⟨u,rfl,r⟩
section
variable {P:Program} {w:World} {H H':Hp} {h h':Heap} {a C dx:Addr} {fs VP:List (Str×V)}
theorem Fh (be:j8 P w H h) (e:H a=some (.ins C dx fs)):∃ mA,IY h a dx C mA /\ (∀ f,mI (fs.lookup f) (mA f)) /\ PySem.Within mA (fs.map (·.1)) /\ fs.length<=1000 /\ H dx=some (.own a):=by
 obtain ⟨d,z,ne,ob,mA,n,r,q⟩:=(show bN P w H h a (.ins C dx fs) from be a _ e)
 exact ⟨mA,⟨ob,n,ne⟩,r,q,z,d⟩
end
structure OX (K:PySem.W.Frag) (C:Addr):Prop where
 pg:PySem.W.plainGet K C Str.empty=true
 hd:PySem.W.hasDictIn K C=true
 po:PySem.W.plainOver K C=true
 sa:PySem.W.findIn K (.ref C) "__setattr__"=some (some (.builtin "object.__setattr__"))
theorem OX.get {K:PySem.W.Frag} {C:Addr} (c:OX K C) (f:Str):PySem.W.plainGet K C f=true:=c.pg
section
variable {X:Cx} {pins:List (Addr×Obj)} {σ:St} {H:Hp} {s:Shared} {a C dx:Addr} {fs:List (Str×V)} {f:Str} {v:V} {A:Around} {E:Value->Shared->Prop}
end
section
variable {X:Cx} {o e value:Expr} {f:Str} {pos pos' ik:Pos} {ta tv:TE}
end
section
variable {X:Cx} {pins:List (Addr×Obj)} {σ:St} {H:Hp} {s:Shared} {A:Around} {E:Value->Shared->Prop} {Q:Value->Shared->Prop} {c:Value} {b:Bool}
inductive mR (K:PySem.W.Frag) (H:Hp):V->Value->Prop where
 | gM:mR K H .gM (.type "NoneType")
 | bl (x:Bool):mR K H (.bl x) (.type "bool")
 | int (i:Int):mR K H (.int i) (.type "int")
 | str (x:Str):mR K H (.str x) (.type "str")
 | EM (x:UInt64):mR K H (.EM x) (.type "float")
 | lst {a:Addr} {xs:List V} (e:H a=some (.lst xs)):mR K H (.ref a) (.type "list")
 | n6 {a:Addr} {o:Obj} {xs:List V} (e:H a=some (.n6 o (.lst xs))):mR K H (.ref a) (.type "list")
 | tup {a:Addr} {xs:List V} (e:H a=some (.tup xs)):mR K H (.ref a) (.type "tuple")
 | dK {a:Addr} {aF:List (Key×V)} (e:H a=some (.dK aF)):mR K H (.ref a) (.type "dict")
 | dT {a:Addr} {aF:List (List Key×V)} (e:H a=some (.dT aF)):mR K H (.ref a) (.type "dict")
 | ins {a C dx:Addr} {fs:List (Str×V)} (e:H a=some (.ins C dx fs)) (cl:OX K C) (ha:PySem.W.findIn K (.ref C) "__class__"=some (some (.builtin "object.__class__")))
   (hn:PySem.W.specialIn K (.builtin "object.__class__") "__get__"=some (some (.builtin "getset_descriptor.__get__"))) (UA:PySem.W.takesIn K (.builtin "object.__class__")=some true)
   (hm:PySem.W.mroIn K C (.type "object")=some true):mR K H (.ref a) (.ref C)
theorem Aa {x:V} {u t:Value} (I:Inv X pins σ H s) (rx:RelV x u) (ty:mR X.K H x t) (e:PySem.W.kitOne X.K t c=some b) (h:∀ tk,Q (.bool b) { s with toks:=tk }):
  wpAny (model X.prog X.w) A (call (.builtin "isinstance") [u,c]) Q E s:=by
 cases ty with
 | gM=>cases (show u=Value.none from rx); exact PySem.W.kia_one PySem.W.kitx_none I.kU True.intro e (fun z=>nomatch z) h
 | bl y=>cases (show u=Value.bool y from rx); exact PySem.W.kia_one PySem.W.kitx_bool I.kU True.intro e (fun z=>nomatch z) h
 | int i=>obtain ⟨t,q⟩:=(show ∃ t,u=Value.int i t from rx); cases q; exact PySem.W.kia_one PySem.W.kitx_int I.kU True.intro e (fun z=>nomatch z) h
 | str y=>obtain ⟨t,q⟩:=(show ∃ t,u=Value.str y t from rx); cases q; exact PySem.W.kia_one PySem.W.kitx_str I.kU True.intro e (fun z=>nomatch z) h
 | EM y=>obtain ⟨t,q⟩:=(show ∃ t,u=Value.float y t from rx); cases q; exact PySem.W.kia_one PySem.W.kitx_float I.kU True.intro e (fun z=>nomatch z) h
 | @lst a xs ea=>
   cases (show u=Value.ref a from rx)
   obtain ⟨_,_,n,_,h1⟩:=(show bN X.prog X.w H s.heap a (.lst xs) from I.be a _ ea)
   exact PySem.W.kia_one PySem.W.kitx_list I.kU ⟨_,h1,rfl⟩ e (fun z=>nomatch z) h
 | @n6 a ob xs ea=>
   cases (show u=Value.ref a from rx)
   obtain ⟨_,_,_,n,_,h1⟩:=(show bN X.prog X.w H s.heap a (.n6 ob (.lst xs)) from I.be a _ ea)
   exact PySem.W.kia_one PySem.W.kitx_list I.kU ⟨_,h1,rfl⟩ e (fun z=>nomatch z) h
 | @tup a xs ea=>
   cases (show u=Value.ref a from rx)
   obtain ⟨_,_,_,p⟩:=(show bN X.prog X.w H s.heap a (.tup xs) from I.be a _ ea)
   obtain ⟨o,h1,h2,_⟩:=p
   exact PySem.W.kia_one PySem.W.kitx_tuple I.kU ⟨o,h1,h2⟩ e (fun z=>nomatch z) h
 | @dK a aF ea=>
   cases (show u=Value.ref a from rx)
   obtain ⟨_,_,vs,_,p⟩:=(show bN X.prog X.w H s.heap a (.dK aF) from I.be a _ ea)
   obtain ⟨o,es,ep,h1,h2,_⟩:=p
   exact PySem.W.kia_one PySem.W.kitx_dict I.kU ⟨o,h1,h2.1⟩ e (fun z=>nomatch z) h
 | @dT a aF ea=>
   cases (show u=Value.ref a from rx)
   obtain ⟨_,_,xs,_,o,es,ep,h1,h2,_⟩:=(show bN X.prog X.w H s.heap a (.dT aF) from I.be a _ ea)
   exact PySem.W.kia_one PySem.W.kitx_dict I.kU ⟨o,h1,h2.1⟩ e (fun z=>nomatch z) h
 | @ins a C dx fs ea cl ha hn UA hm=>
   cases (show u=Value.ref a from rx)
   obtain ⟨mA,O,_⟩:=Fh I.be ea
   obtain ⟨od,J,_⟩:=O.look
   exact PySem.W.kia_one (PySem.W.kitx_own (cl.get _) cl.hd ha hn UA hm) I.kU J e (fun z=>nomatch z) h
end
structure cy (k:Nat) (A:Around):Prop where
 hd:A.handled=none
 dp:A.depth + 3 * k + 5 < recursionLimit
 un:A.units + 16 * k + 200 < cLine
theorem cy.mono {j k:Nat} {A:Around} (r:cy k A) (h:j<=k):cy j A:=⟨r.hd,by have:=r.dp; omega,by have:=r.un; omega⟩
theorem cy.deeper {k:Nat} {A:Around} (r:cy (k + 1) A) (env:Env):cy k (A.deeper env):=
 ⟨r.hd,by have:=r.dp; show A.depth + 1 + 3 * k + 5 < _; omega,by have:=r.un; show A.units + 3 + 16 * k + 200 < _; omega⟩
theorem cy.depth {k:Nat} {A:Around} (r:cy k A):A.depth < recursionLimit:=by have:=r.dp; omega
theorem cy.units {k:Nat} {A:Around} (r:cy k A):A.units + 64 < cLine:=by have:=r.un; omega
def IZ:TA:=fun _ H Q=>Q [] H
def BV (ta:TE) (tr:TA):TA:=fun σ H Q=>ta σ H fun x H1=>tr σ H1 fun xs H2=>Q (x :: xs) H2
section
variable {X:Cx} {e:Expr} {es:List Expr} {te:TE} {t:TA} {pos:Pos}
theorem cn:PA X [] IZ:=fun _ _ _ _ H Q I h=>Calls.spliced_nil ⟨[],H,I,.nil,h⟩
theorem bg (ha:PE X e te) (hr:PA X es t) (hs:starEach (e :: es) X.env=(false,eval e X.env) :: starEach es X.env:=by rfl):PA X (e :: es) (BV te t):=by
 intro pos pins s σ H Q I h
 rw [hs]
 show wpAny _ _ (spliced ((false,eval e X.env) :: backTo pos (starEach es X.env))) _ _ s
 refine Calls.spliced_cons (cO (ha pins s σ H _ I h) fun u s1 ⟨x,H1,I1,r1,q1⟩=>?_)
 exact cO (hr pos pins s1 σ H1 _ I1 q1) fun us s2 ⟨xs,H2,I2,r2,q2⟩=>⟨x :: xs,H2,I2,.cons r1 r2,q2⟩
def OY (t:TA):TE:=fun σ H Q=>t σ H fun xs H1=>xs.length<=sizeLine /\ ∀ p,H1 p=none->Q (.ref p) (upd H1 p (.tup xs))
def OZ (t:TA):TE:=fun σ H Q=>t σ H fun xs H1=>xs.length<=sizeLine /\ ∀ p,H1 p=none->Q (.ref p) (upd H1 p (.lst xs))
theorem BW {x1} (h:PA X es t):PE X (.Tuple es x1 pos) (OY t):=by
 intro pins s σ H Q I hq
 refine wpAny_Tuple_spliced (cO (h pos pins s σ H _ I hq) fun us s1 ⟨xs,H1,I1,r,z,q⟩=>⟨by rw [<- r.length]; exact z,?_⟩)
 have hf:H1 s1.heap.objs.size=none:=I1.be.fresh (Nat.le_refl _)
 refine ⟨.ref s1.heap.objs.size,upd H1 s1.heap.objs.size (.tup xs),I1.laid (t':=s1.toks) (fun b u e=>Heap.get?_push_of_some _ e) (Nat.le_refl _) ?_,rfl,q _ hf⟩
 exact ⟨z,us,r,⟨_,Heap.get?_push_size _ rfl,rfl,_,rfl⟩⟩
theorem Ja (h:PA X es t):PE X (.List es pos) (OZ t):=by
 intro pins s σ H Q I hq
 refine wpAny_List_spliced (cO (h pos pins s σ H _ I hq) fun us s1 ⟨xs,H1,I1,r,z,q⟩=>⟨by rw [<- r.length]; exact z,?_⟩)
 have hf:H1 s1.heap.objs.size=none:=I1.be.fresh (Nat.le_refl _)
 refine ⟨.ref s1.heap.objs.size,upd H1 s1.heap.objs.size (.lst xs),I1.laid (t':=s1.toks) (fun b u e=>Heap.get?_push_of_some _ e) (Nat.le_refl _) ?_,rfl,q _ hf⟩
 exact ⟨z,us,0,r,Heap.get?_push_size _ rfl⟩
end
abbrev Sp:=List V->Hp->VK->XK->Prop
abbrev BX:=List Env->Hp->Shared->XK->Value->Shared->Prop
structure w9 (P:Program) (w:World) (K:PySem.W.Frag) (mg:Str->Option Value) (base:Heap) (A:Around) (outer:List Env) (s:Shared) (H:Hp):Prop where
 frames:A.frames=some outer
 mod:Mod K mg base
 bs:∀ b o,base.get? b=some o->s.heap.get? b=some o /\ H b=none
 yY:base.objs.size<=s.heap.objs.size
 ig:s.heap.FunFrames base outer
 wR:∀ b∈j5 outer,H b=none
 be:j8 P w H s.heap
 bare:AllBare s.gens
def CE (outer:List Env) (P:Program) (w:World) (H:Hp) (s:Shared) (Q:VK) (u:Value) (s':Shared):Prop:=
 ∃ v H',s'.os=s.os /\ AllBare s'.gens /\ Un (j5 outer) [] H H' s.heap s'.heap /\ j8 P w H' s'.heap /\ RelV v u /\ Q v H'
def CR (CX:BX) (outer:List Env) (P:Program) (w:World) (H:Hp) (s:Shared) (Q:VK) (E:XK) (r:Result) (s':Shared):Prop:=
 match r with
 | .ok (.ret u)=>CE outer P w H s Q u s'
 | .ok _=>False
 | .error e=>CX outer H s E e s'
structure lb (P:Program) (w:World) (K:PySem.W.Frag) (mg:Str->Option Value) (base:Heap) (CX:BX) (k:Nat) (f:Addr) (fd:FuncData) (ps:List Str) (sp:Sp):Prop where
 len:∀ vs H Q E,sp vs H Q E->vs.length=ps.length
 run:∀ (A:Around) (outer:List Env) (s:Shared) (H:Hp) (args:Args) (us:List Value) (vs:List V) (Q:VK) (E:XK),cy k A->w9 P w K mg base A outer s H->BindsTo s fd args (ps.zip us)->a4 vs us->sp vs H Q E->
  codeAny (model P w) A (.call (.ref f) args) (CR CX outer P w H s Q E) s
section
variable {X:Cx} {pins:List (Addr×Obj)} {σ:St} {H:Hp} {s s':Shared}
theorem Inv.L5 (I:Inv X pins σ H s):w9 X.prog X.w X.K X.mg X.base X.A X.stack s H:=
 ⟨I.ok.frames,I.ok.mod,I.bs,Nat.le_trans I.ok.yY I.sz,I.stack,I.om,I.be,I.bare⟩
theorem Inv.after {Q:VK} {u:Value} (I:Inv X pins σ H s) (h:CE X.stack X.prog X.w H s Q u s'):EP X pins σ Q u s':=by
 obtain ⟨v,H',os,bare,un,be,r,q⟩:=h
 obtain ⟨hh,g,d,t,O0⟩:=s'
 obtain rfl:O0=s.os:=os
 exact ⟨v,H',I.call (h':=hh) (g':=g) (d':=d) (t':=t) (ch:=[]) un be bare (fun b z=>absurd z (by simp)),r,q⟩
end
def uH (sp:Sp) (Hw:List V) (E:XK) (t:TA):TE:=fun σ H Q=>t σ H fun vs H1=>sp (vs ++ Hw) H1 Q E
def Binds (K:PySem.W.Frag) (fd:FuncData) (ps:List Str) (ds:List Value):Prop:=
 ∀ (s:Shared) (us:List Value),K.In s.heap->(us ++ ds).length=ps.length->BindsTo s fd ⟨us,[]⟩ (ps.zip (us ++ ds))
theorem Binds.all {K:PySem.W.Frag} {fd:FuncData} {ps:List Str} (h:∀ us:List Value,us.length=ps.length->bindArgs fd ⟨us,[]⟩=pure (ps.zip us)):Binds K fd ps []:=fun s us _ hl=>by
 rw [List.append_nil] at hl ⊢
 exact .of_eq (h us hl)
def mS (CX:BX) (X:Cx) (E:XK):Prop:=∀ (pins:List (Addr×Obj)) (σ:St) (H:Hp) (s:Shared) (e:Value) (s':Shared),Inv X pins σ H s->CX X.stack H s E e s'->X.xe e s'
section
variable {X:Cx} {CX:BX} {k:Nat} {f C:Addr} {fd:FuncData} {ps:List Str} {sp:Sp} {Hw:List V} {ds:List Value} {E:XK} {x m:Str} {p pos apos:Pos} {e o:Expr} {es:List Expr} {ta:TE} {t:TA}
theorem BY {pins:List (Addr×Obj)} {σ:St} {H:Hp} {s:Shared} {Q:VK} {us:List Value} {vs:List V} (F:lb X.prog X.w X.K X.mg X.base CX k f fd ps sp) (hr:cy k X.A) (hb:Binds X.K fd ps ds) (hd:a4 Hw ds) (hx:mS CX X E)
  (I:Inv X pins σ H s) (r:a4 vs us) (h:sp (vs ++ Hw) H Q E):wpAny (model X.prog X.w) X.A (call (.ref f) us) (EP X pins σ Q) X.xe s:=by
 have r2:a4 (vs ++ Hw) (us ++ ds):=r.append hd
 have hl:(us ++ ds).length=ps.length:=by rw [<- r2.length]; exact F.len _ _ _ _ h
 refine wpAny_call (codeAny_mono (F.run X.A X.stack s H ⟨us,[]⟩ (us ++ ds) (vs ++ Hw) Q E hr I.L5 (hb s us I.kU hl) r2 h) fun r s' hq=>?_)
 cases r with
 | error e=>exact hx pins σ H s e s' I hq
 | ok fl=>
   cases fl with
   | ret u=>exact I.after hq
   | next=>exact False.elim hq
   | brk=>exact False.elim hq
   | cont=>exact False.elim hq
theorem y4 (F:lb X.prog X.w X.K X.mg X.base CX k f fd ps sp) (hr:cy k X.A) (hg:Gl X x) (hm:X.mg x=some (.ref f)) (hk:PySem.W.keepIn X.K (.ref f)=true) (hb:Binds X.K fd ps ds) (hd:a4 Hw ds) (hx:mS CX X E)
  (ha:PA X (e :: es) t) (mT:(x == ("__debug__":Str))=false:=by decide) (he:starEach (e :: es) X.env=(false,eval e X.env) :: starEach es X.env:=by rfl) (iH:(backTo pos (starEach es X.env)).any (·.1)=false:=by rfl):
  PE X (.Call (.Name x p) (e :: es) [] pos) (uH sp Hw E t):=by
 intro pins s σ H Q I h
 refine wpAny_Call_Name_kw (kL I hg hm ?_ mT)
 refine PySem.W.callWith_K (h₀:=X.base) I.ok.mod.Hq hk (cO (ha pos pins s σ H _ I h) fun us s1 ⟨vs,H1,I1,r,q⟩=>⟨I1.kU,?_⟩) he iH
 exact BY F hr hb hd hx I1 r q
end
section
variable {X:Cx} {CX:BX} {k:Nat} {f C:Addr} {fd:FuncData} {ps ks:List Str} {sp:Sp} {E:XK} {x m:Str} {p pos apos VY:Pos} {e o:Expr} {es:List Expr} {Jb:List Keyword} {te ta:TE} {t tk:TA} {nm:Option Str}
variable {g:List Value->List Value->List Value} {gV:List V->List V->List V}
end
structure aN (N P:List Str) (sc:Scope):Prop where
 kind:sc.kind=.function
 co:sc.isCoroutine=false
 gen:sc.isGenerator=false
 nd:N.Nodup
 pre:N.take P.length=P
 par:∀ x∈P,sc.names.lookup x=some .local \/ sc.names.lookup x=some .cell
 Jc:∀ y∈sc.names,y.2≠.free
theorem qU {kindOf:Str->Option NameKind} {x:Str}:∀ {binds:List (Str×Value)} {m:Str->Option Value},(∀ v,(x,v)∉binds)->bindL kindOf binds m x=m x
 | [],_,_=>rfl
 | (n,v) :: r,m,h=>by
   unfold bindL
   rw [qU fun w hw=>h w (List.mem_cons_of_mem _ hw)]
   split
   ·have:x≠n:=by rintro rfl; exact h v List.mem_cons_self
    simp [this]
   ·rfl
theorem qV {kindOf:Str->Option NameKind} {x:Str}:∀ {binds:List (Str×Value)} {m:Str->Option Value},(∀ v,(x,v)∉binds)->bindC kindOf binds m x=m x
 | [],_,_=>rfl
 | (n,v) :: r,m,h=>by
   unfold bindC
   rw [qV fun w hw=>h w (List.mem_cons_of_mem _ hw)]
   split
   ·rfl
   ·have:x≠n:=by rintro rfl; exact h v List.mem_cons_self
    simp [this]
theorem qW {kindOf:Str->Option NameKind} {x:Str} {v:Value}:∀ {P:List Str} {vs:List Value} {i:Nat} {m:Str->Option Value},P.Nodup->P[i]?=some x->vs[i]?=some v->kindOf x=some .local->
  bindL kindOf (P.zip vs) m x=some v
 | [],_,_,_,_,h,_,_=>by simp at h
 | _ :: _,[],_,_,_,_,h,_=>by simp at h
 | p :: P,w :: vs,0,m,nd,h1,h2,hk=>by
   simp at h1 h2; subst h1; subst h2
   show bindL kindOf ((p,w) :: P.zip vs) m p=_
   unfold bindL
   rw [qU fun v hv=>(List.nodup_cons.mp nd).1 (List.of_mem_zip hv).1,if_pos hk]
   simp
 | p :: P,w :: vs,i + 1,m,nd,h1,h2,hk=>by
   show bindL kindOf ((p,w) :: P.zip vs) m x=_
   unfold bindL
   exact qW (i:=i) (List.nodup_cons.mp nd).2 (by simpa using h1) (by simpa using h2) hk
theorem qX {kindOf:Str->Option NameKind} {x:Str} {v:Value}:∀ {P:List Str} {vs:List Value} {i:Nat} {m:Str->Option Value},P.Nodup->P[i]?=some x->vs[i]?=some v->kindOf x≠some .local->
  bindC kindOf (P.zip vs) m x=some v
 | [],_,_,_,_,h,_,_=>by simp at h
 | _ :: _,[],_,_,_,_,h,_=>by simp at h
 | p :: P,w :: vs,0,m,nd,h1,h2,hk=>by
   simp at h1 h2; subst h1; subst h2
   show bindC kindOf ((p,w) :: P.zip vs) m p=_
   unfold bindC
   rw [qV fun v hv=>(List.nodup_cons.mp nd).1 (List.of_mem_zip hv).1,if_neg hk]
   simp
 | p :: P,w :: vs,i + 1,m,nd,h1,h2,hk=>by
   show bindC kindOf ((p,w) :: P.zip vs) m x=_
   unfold bindC
   exact qX (i:=i) (List.nodup_cons.mp nd).2 (by simpa using h1) (by simpa using h2) hk
def start (N:List Str) (vs:List V):St:=vs.map some ++ List.replicate (N.length - vs.length) none
def gO (CX:BX) (P:Program) (w:World) (K:PySem.W.Frag) (mg:Str->Option Value) (base:Heap) (N:List Str) (qual:Str) (scope:Scope) (f:Addr) (cd:Value) (A:Around) (outer:List Env) (s:Shared) (H:Hp) (E:XK):Cx where
 prog:=P
 w:=w
 K:=K
 mg:=mg
 base:=base
 A:=A.deeper (envOfC qual scope s.heap.objs.size f cd)
 N:=N
 fm:=s
 z4:=H
 env:=envOfC qual scope s.heap.objs.size f cd
 outer:=outer
 stack:=envOfC qual scope s.heap.objs.size f cd :: outer
 ex:=[]
 calm:=true
 fn:=fun _=>true
 pn:=[]
 xe:=fun e s'=>wpAny (model P w) (A.deeper (envOfC qual scope s.heap.objs.size f cd)) (leaving (envOfC qual scope s.heap.objs.size f cd) e) (fun _ Fi=>CX outer H s E e Fi) (fun e' Fi=>CX outer H s E e' Fi) s'
theorem uI {sc:Scope} {n:Nat} {x:Str} (h:sc.names.lookup x=some .cell):∃ c,(cellsFrom n sc.names []).lookup x=some c:=by
 have q:=PySem.W.cellsFrom_some sc.names n [] (.inl h)
 exact Option.isSome_iff_exists.mp q
theorem qY {CX:BX} {P:Program} {w:World} {K:PySem.W.Frag} {mg:Str->Option Value} {base:Heap} {N ps:List Str} {qual:Str} {scope:Scope} {f:Addr} {cd:Value} {A:Around} {outer:List Env} {s s1:Shared} {H:Hp} {E:XK} {us:List Value} {vs:List V}
  (S:aN N ps scope) (hd:A.handled=none) (e0:w9 P w K mg base A outer s H) (hl:vs.length=ps.length) (r:a4 vs us)
  (x:InCallC s s.heap.objs.size (bindL (envOfC qual scope s.heap.objs.size f cd).kindOf (ps.zip us) fun _=>none) (cellsFrom (s.heap.objs.size + 1) scope.names []) (bindC (envOfC qual scope s.heap.objs.size f cd).kindOf (ps.zip us) fun _=>none) s1):
  Inv (gO CX P w K mg base N qual scope f cd A outer s H E) [] (start N vs) H s1:=by
 have iH:ps.length<=N.length:=by have:=congrArg List.length S.pre; rw [List.length_take] at this; omega
 obtain ⟨h1,tk,rfl,hk⟩:=x.done
 have Fj:∀ b:Addr,b∉(gO CX P w K mg base N qual scope f cd A outer s H E).ex:=fun b z=>absurd (show b∈([]:List Addr) from z) (by simp)
 refine ⟨⟨e0.mod,S.kind,rfl,rfl,Nat.le_refl _,fun y z c h1 h2=>?_,fun y hy=>?_,fun y c _ h=>?_,fun _=>hd,Around.frames_deeper e0.frames,.inr ⟨rfl,rfl⟩,fun b z=>absurd z (Fj b),e0.bs,e0.yY,fun b _ _=>Fj b,fun b z=>absurd z (Fj b),e0.ig,e0.wR⟩,
  rfl,e0.bare,Un.kept hk,⟨_,x.toInCall.ns,fun i y v h1 h2 h3=>?_⟩,fun y c h=>⟨_,x.cell y c h⟩,e0.be.fresh (Nat.le_refl _),fun y c h=>?_,fun p hp=>absurd (show p∈([]:List (Addr×Obj)) from hp) (by simp),e0.be.kept hk,?_⟩
 ·exact name_of_addr x.apart (PySem.mem_of_lookup h1) (PySem.mem_of_lookup h2)
 ·have hy:scope.names.lookup y=some .cell \/ scope.names.lookup y=some .free:=hy
  rcases hy with hy | hy
  ·exact uI hy
  ·exact absurd rfl (S.Jc _ (PySem.mem_of_lookup hy))
 ·exact Nat.le_of_lt (x.above y c (PySem.mem_of_lookup h))
 ·have hi:i < vs.length:=by
   unfold start at h2
   by_cases hi:i < vs.length
   ·exact hi
   ·rw [List.getElem?_append_right (by simpa using hi)] at h2
    rw [List.getElem?_replicate] at h2
    split at h2 <;> cases h2
  have ha:vs[i]?=some v:=by
   unfold start at h2
   rw [List.getElem?_append_left (by simpa using hi),List.getElem?_map] at h2
   cases e:vs[i]? with
   | none=>rw [e] at h2; cases h2
   | some a=>rw [e] at h2; cases h2; rfl
  obtain ⟨u,hu,rv⟩:=r.get ha
  have hp:ps[i]?=some y:=by
   rw [<- S.pre,List.getElem?_take_of_lt (by omega)]; exact h1
  have UB:ps.Nodup:=by rw [<- S.pre]; exact S.nd.sublist (List.take_sublist _ _)
  refine ⟨u,rv,?_⟩
  rcases S.par y (List.mem_of_getElem? hp) with k | k
  ·exact .inl ⟨k,qW UB hp hu k⟩
  ·obtain ⟨c,e⟩:=uI (n:=s.heap.objs.size + 1) k
   refine .inr ⟨.inl k,c,e,?_⟩
   have q:=x.cell y c e
   rw [qX UB hp hu (by show scope.names.lookup y≠_; rw [k]; decide)] at q
   exact q
 ·exact e0.be.fresh (Nat.le_of_lt (x.above y c (PySem.mem_of_lookup h)))
 ·unfold start
  show _=N.length
  rw [List.length_append,List.length_map,List.length_replicate]
  omega
theorem BZ {CX:BX} {P:Program} {w:World} {K:PySem.W.Frag} {mg:Str->Option Value} {base:Heap} {k:Nat} {f:Addr} {name qual:Str} {params:Arguments} {body:List Stmt} {scope:Scope} {dV kV doc pm bZ ct oc:Value} {an od:Option Addr}
  {y6:Array (Option Value)} {N ps:List Str} {sp:Sp} (lk:K.lookup f=some ⟨oc,od,.func (PySem.W.fnOf name qual params body scope dV kV doc pm an bZ ct),y6⟩) (mO:PySem.W.codeIn K bZ qual=true) (S:aN N ps scope)
  (len:∀ vs H Q E,sp vs H Q E->vs.length=ps.length)
  (gq:∀ (A:Around) (outer:List Env) (s:Shared) (H:Hp) (vs:List V) (Q:VK) (E:XK),cy k (A.deeper (envOfC qual scope s.heap.objs.size f bZ))->sp vs H Q E->
   ∃ t,jy (gO CX P w K mg base N qual scope f bZ A outer s H E) body t /\ t { nx:=fun _ H'=>Q .gM H',rt:=Q } (start N vs) H):
  lb P w K mg base CX (k + 1) f (PySem.W.fnOf name qual params body scope dV kV doc pm an bZ ct) ps sp:=by
 refine ⟨len,fun A outer s H args us vs Q E hr e0 hb r uJ=>?_⟩
 have hl:=len _ _ _ _ uJ
 have KX:K.In s.heap:=e0.mod.Hq.keeps fun b o e=>(e0.bs b o e).1
 have lim:s.heap.NoLimit:=e0.mod.nolimit.keeps fun b o e=>(e0.bs b o e).1
 have B0:∀ y∈ps.zip us,scope.names.lookup y.1=some .local \/ (scope.names.lookup y.1=some .cell /\ ((cellsFrom (s.heap.objs.size + 1) scope.names []).lookup y.1).isSome=true):=fun ⟨n,v⟩ hy=>by
  rcases S.par n (List.of_mem_zip hy).1 with q | q
  ·exact .inl q
  ·exact .inr ⟨q,PySem.W.cellsFrom_some _ _ _ (.inl q)⟩
 refine codeAny_call_function hr.depth (KX _ _ lk) rfl S.co S.gen rfl (PySem.W.codeRec_of KX mO) (hb _ _ _ _ ?_)
 refine wpAny_newFunctionEnv_cells S.kind B0 fun env he s1 x=>?_
 subst he
 refine ⟨lim.keeps x.toInCall.keep,codeAny_func ?_⟩
 obtain ⟨t,ht,hq⟩:=gq A outer s H vs Q E (hr.deeper _) uJ
 have I:Inv (gO CX P w K mg base N qual scope f bZ A outer s H E) [] (start N vs) H s1:=qY S hr.hd e0 hl r x
 refine wpAny_mono (ht [] s1 (start N vs) H _ I hq) (fun fl s' hs=>?_) fun e s' hs=>hs
 have fin:∀ {cb:St} {H':Hp} {v:V} {u:Value},Inv (gO CX P w K mg base N qual scope f bZ A outer s H E) [] cb H' s'->RelV v u->Q v H'->CE outer P w H s Q u s':=
  fun {cb H' v u} J rv q=>⟨v,H',J.os,J.bare,J.base,J.be,rv,q⟩
 cases fl with
 | ret u=>
   obtain ⟨v,cb,H',J,rv,q⟩:=hs
   exact fin J rv q
 | next=>
   obtain ⟨cb,H',J,q⟩:=hs
   exact fin (v:=V.gM) (u:=Value.none) J rfl q
 | brk=>
   obtain ⟨_,_,_,q⟩:=hs
   exact False.elim q
 | cont=>
   obtain ⟨_,_,_,q⟩:=hs
   exact False.elim q
section
variable {X:Cx} {x:Str} {p pos:Pos} {e:Expr} {es:List Expr} {t:TA} {id T:String} {r:List V->Hp->VK->Prop}
def NX (r:List V->Hp->VK->Prop) (t:TA):TE:=fun σ H Q=>t σ H fun vs H1=>r vs H1 Q
theorem lV (hc:ee X (.builtin id) r) (hg:Gl X x) (hm:X.mg x=none) (hv:bootBuiltins x=some (.builtin id)) (ha:PA X (e :: es) t) (hn:x≠"__name__":=by decide) (mT:(x == ("__debug__":Str))=false:=by decide)
  (he:starEach (e :: es) X.env=(false,eval e X.env) :: starEach es X.env:=by rfl) (iH:(backTo pos (starEach es X.env)).any (·.1)=false:=by rfl):PE X (.Call (.Name x p) (e :: es) [] pos) (NX r t):=by
 intro pins s σ H Q I h
 refine wpAny_Call_Name_kw (fK I hg hm hv ?_ hn mT)
 exact PyProof.Rows.callWith_builtin1 (cO (ha pos pins s σ H _ I h) fun us s1 ⟨vs,H1,I1,r1,q1⟩=>hc pins s1 σ H1 vs us Q I1 r1 q1) he iH
theorem mU (hc:ee X (.type T) r) (hg:Gl X x) (hm:X.mg x=none) (hv:bootBuiltins x=some (.type T)) (ha:PA X (e :: es) t) (hn:x≠"__name__":=by decide) (mT:(x == ("__debug__":Str))=false:=by decide)
  (he:starEach (e :: es) X.env=(false,eval e X.env) :: starEach es X.env:=by rfl) (iH:(backTo pos (starEach es X.env)).any (·.1)=false:=by rfl):PE X (.Call (.Name x p) (e :: es) [] pos) (NX r t):=by
 intro pins s σ H Q I h
 refine wpAny_Call_Name_kw (fK I hg hm hv ?_ hn mT)
 exact PyProof.Rows.callWith_type1 (cO (ha pos pins s σ H _ I h) fun us s1 ⟨vs,H1,I1,r1,q1⟩=>hc pins s1 σ H1 vs us Q I1 r1 q1) he iH
end
end L2
namespace HT
open PySem PyProof.Rows
section
open PySem.SeqAt
open PySem.AutoSeq1 (wpAny_loadPart')
open PySem.MeetsSeq PySem.MeetsSeq2 PySem.MeetsSeq3
end
section
variable {prog:Program} {w:World} {A:Around} {E:Value->Shared->Prop} {s:Shared}
theorem Fk {t b:Addr} {vs ws:List Value} {Q:Value->Shared->Prop} (ht:IsTup s.heap t vs.toArray) (hb:IsTup s.heap b ws.toArray) (hv:vs≠[])
  (h1:ws=[]->Q (.ref t) s) (h2:ws≠[]->Q (.ref s.heap.objs.size) { s with heap:=s.heap.push { cls:=.type "tuple",data:=.seq (vs ++ ws).toArray } })
  (hsz:vs.length + ws.length<=sizeLine):wpAny (model prog w) A (binaryOp .Add (.ref t) (.ref b)) Q E s:=by
 obtain ⟨⟨cls,dd,data,sl⟩,ho,hc,n,hd⟩:=id ht
 obtain ⟨⟨VZ,UC,data2,Fl⟩,j7,Hx,n2,hd2⟩:=id hb
 simp only at hc hd Hx hd2
 subst hc hd Hx hd2
 have e:vs.toArray ++ ws.toArray=(vs ++ ws).toArray:=by simp
 by_cases hw:ws=[]
 ·exact concat_meets ⟨_,ho,rfl⟩ ⟨_,j7,rfl⟩ noFill_tuple_add seq_tuple_add PySem.F.slot_tuple_add PySem.F.entry_tuple_add (PySem.F.args_tuple_add_2 _ _)
   (tuple_addW1 t b vs.toArray ws.toArray n n2 dd UC sl Fl (by simpa using hv) (by simp [hw])) ⟨ho,j7,h1 hw⟩
 ·refine concat_meets ⟨_,ho,rfl⟩ ⟨_,j7,rfl⟩ noFill_tuple_add seq_tuple_add PySem.F.slot_tuple_add PySem.F.entry_tuple_add (PySem.F.args_tuple_add_2 _ _)
   (tuple_addW2 t b vs.toArray ws.toArray n n2 dd UC sl Fl (by simpa using hv) (by simpa using hw) (by rw [List.size_toArray,List.size_toArray]; exact hsz)) ⟨ho,j7,?_⟩
  rw [e]
  exact h2 hw
def qf (n d:Nat):Option Int->Nat
 | none=>d
 | some v=>if v < 0 then (v + (n:Int)).toNat else min v.toNat n
theorem y7 (n d k:Nat):qf n d (some (k:Int))=min k n:=by
 show (if (k:Int) < 0 then ((k:Int) + (n:Int)).toNat else min (k:Int).toNat n)=min k n
 rw [if_neg (by omega),Int.toNat_natCast]
end
end HT
namespace L2
open PySem PySem.Spec PyProof.Rows
abbrev TO:=St->Hp->(Option Int->Hp->Prop)->Prop
def PO (X:Cx) (e:Option Expr) (t:TO):Prop:=
 ∀ (pins:List (Addr×Obj)) (s:Shared) (σ:St) (H:Hp) (Q:Option Int->Hp->Prop),Inv X pins σ H s->t σ H Q->
   wpAny (model X.prog X.w) X.A (evalPart e X.env) (fun u s'=>∃ o H',Inv X pins σ H' s' /\ IsPart u o /\ Q o H') X.xe s
def Fm:TO:=fun _ H Q=>Q none H
def L6 (t:TE):TO:=fun σ H Q=>t σ H fun x H1=>∃ i,x=.int i /\ Q (some i) H1
theorem intsAre_of {ns:List Int}:∀ {us:List Value},a4 (ns.map V.int) us->IntsAre us ns:=by
 induction ns with
 | nil=>intro us r; rw [List.map_nil] at r; cases r; exact .nil
 | cons n ns ih=>
   intro us r
   rw [List.map_cons] at r
   cases r with
   | cons r1 r2=>
     obtain ⟨t,e⟩:=r1
     subst e
     exact .cons n t (ih r2)
section
variable {X:Cx} {e:Expr} {te:TE} {lo hi:Option Expr} {tl th:TO} {pos p2:Pos}
theorem Fo:PO X none Fm:=by
 intro pins s σ H Q I h
 rw [evalPart_none]
 exact wpAny_pure ⟨none,H,I,.none,h⟩
theorem Fp (h:PE X e te):PO X (some e) (L6 te):=by
 intro pins s σ H Q I hw
 rw [evalPart_some]
 refine cO (h pins s σ H _ I hw) fun u s1 ⟨x,H1,I1,r1,q1⟩=>?_
 obtain ⟨i,rfl,q⟩:=q1
 obtain ⟨t,rfl⟩:=r1
 exact ⟨some i,H1,I1,.int i t,q⟩
def UD (X:Cx) (r:V->Option Int->Option Int->Hp->VK->Prop):Prop:=
 ∀ (pins:List (Addr×Obj)) (s:Shared) (σ:St) (H:Hp) (x:V) (v vl vu:Value) (lo hi:Option Int) (sl:Addr) (Q:VK),Inv X pins σ H s->RelV x v->s.heap.IsSliceOf sl vl vu .none->IsPart vl lo->IsPart vu hi->r x lo hi H Q->
   ∃ T id,typeLookup (.type T) "__getitem__"=pure (some (.builtin id)) /\ s.TypeIs v T /\ wpAny (model X.prog X.w) X.A (getItem v (.ref sl)) (EP X pins σ Q) X.xe s
def V0 (r:V->Option Int->Option Int->Hp->VK->Prop) (te:TE) (tl th:TO):TE:=fun σ H Q=>te σ H fun x H1=>tl σ H1 fun l H2=>th σ H2 fun u H3=>r x l u H3 Q
theorem B1 {r:V->Option Int->Option Int->Hp->VK->Prop} (hr:UD X r) (he:PE X e te) (hl:PO X lo tl) (hu:PO X hi th):PE X (.Subscript e (.Slice lo hi none p2) pos) (V0 r te tl th):=by
 intro pins s σ H Q I h
 refine Subscript_ (cO (he pins s σ H _ I h) fun v s1 ⟨x,H1,I1,r1,q1⟩=>?_)
 refine wpAny_Slice (cO (hl pins s1 σ H1 _ I1 q1) fun vl s2 ⟨l,H2,I2,pl,q2⟩=>cO (hu pins s2 σ H2 _ I2 q2) fun vu s3 ⟨u,H3,I3,pu,q3⟩=>?_)
 rw [evalPart_none]
 refine wpAny_pure ?_
 have I4:Inv X pins σ H3 { s3 with heap:=s3.heap.push { cls:=.type "slice",data:=.fields #[vl,vu,.none] } }:=I3.kept (t':=s3.toks) fun b ob q=>Heap.get?_push_of_some _ q
 obtain ⟨T,id,hT,ht,hg⟩:=hr pins { s3 with heap:=s3.heap.push { cls:=.type "slice",data:=.fields #[vl,vu,.none] } } σ H3 x v vl vu l u s3.heap.objs.size Q I4 r1 (Heap.IsSliceOf.new ..) pl pu q3
 show wpAny (model X.prog X.w) X.A (subscriptTail e (.Slice lo hi none p2) v (.ref s3.heap.objs.size)) (EP X pins σ Q) X.xe { s3 with heap:=s3.heap.push { cls:=.type "slice",data:=.fields #[vl,vu,.none] } }
 exact tail_any (ops:=[.ref s3.heap.objs.size,v]) ht hT hg (by with_unfolding_all rfl)
def B2 (xs:List V) (lo hi:Option Int):List V:=(xs.drop (HT.qf xs.length 0 lo)).take (HT.qf xs.length xs.length hi - HT.qf xs.length 0 lo)
theorem uK (xs:List V) (lo hi:Option Int):(B2 xs lo hi).length<=xs.length:=by
 unfold B2
 rw [List.length_take,List.length_drop]
 omega
def Hy (K:PySem.W.Frag):R2:=fun x y H Q=>∃ a b xs ys,x=.ref a /\ y=.ref b /\ jB K H a xs /\ jB K H b ys /\ xs≠[] /\ xs.length + ys.length<=sizeLine /\
 (ys=[]->Q (.ref a) H) /\ (ys≠[]->∀ p,H p=none->Q (.ref p) (upd H p (.tup (xs ++ ys))))
theorem a4.oo {xs:List V} {us:List Value} (r:a4 xs us):us=[]↔xs=[]:=by
 cases r with
 | nil=>simp
 | cons _ _=>simp
theorem Fq:gT X (binaryOp .Add) (Hy X.K):=by
 intro pins s σ H x y v u Q I rx ry h
 obtain ⟨a,b,xs,ys,rfl,rfl,ha,hb,hx,hz,q1,q2⟩:=h
 cases rx
 cases ry
 obtain ⟨its,r1,p1,_⟩:=I.tuple ha
 obtain ⟨qj,r2,p2,_⟩:=I.tuple hb
 refine HT.Fk p1 p2 (fun z=>hx (r1.oo.mp z)) (fun z=>⟨.ref a,H,I,rfl,q1 (r2.oo.mp z)⟩) (fun z=>?_) (by rw [<- r1.length,<- r2.length]; exact hz)
 refine ⟨.ref s.heap.objs.size,_,I.laid (t':=s.toks) (o:=.tup (xs ++ ys)) (fun b ob q=>Heap.get?_push_of_some _ q) (Nat.le_refl _) ?_,rfl,q2 (fun w=>z (r2.oo.mpr w)) _ (I.be.fresh (Nat.le_refl _))⟩
 exact ⟨by rw [List.length_append]; exact hz,_,r1.append r2,IsTup.new _ _⟩
end
def Hz (n:Nat) (i:Int):Option Nat:=if 0<=i then (if i < n then some i.toNat else none) else if -(n:Int)<=i then some (i + n).toNat else none
def nJ {α:Type} (xs:List α) (i:Int):Option α:=(Hz xs.length i).bind fun j=>xs[j]?
theorem Fs {n:Nat} {i:Int} {j:Nat} (h:Hz n i=some j):seqIndex? i n=some j /\ j < n /\ -(n:Int)<=i /\ i < n:=by
 unfold Hz at h
 by_cases h0:0<=i
 ·rw [if_pos h0] at h
  by_cases h1:i < n
  ·rw [if_pos h1] at h
   have e:i.toNat=j:=Option.some.inj h
   exact ⟨by rw [seqIndex_of h0 h1,e],by omega,by omega,h1⟩
  ·rw [if_neg h1] at h; cases h
 ·rw [if_neg h0] at h
  by_cases h1: -(n:Int)<=i
  ·rw [if_pos h1] at h
   have e:(i + n).toNat=j:=Option.some.inj h
   exact ⟨by rw [seqIndex_neg (by omega) h1,e],by omega,h1,by omega⟩
  ·rw [if_neg h1] at h; cases h
theorem rT {α:Type} {xs:List α} {i:Int} {v:α} (h:nJ xs i=some v):∃ j,seqIndex? i xs.length=some j /\ xs[j]?=some v /\ j < xs.length /\ -(xs.length:Int)<=i /\ i < xs.length:=by
 unfold nJ at h
 cases e:Hz xs.length i with
 | none=>rw [e] at h; cases h
 | some j=>
   rw [e] at h
   obtain ⟨h1,h2,h3,h4⟩:=Fs e
   exact ⟨j,h1,h,h2,h3,h4⟩
theorem iN {α:Type} {xs:List α} {j:Nat} {v:α} (h:xs[j]?=some v):nJ xs (j:Int)=some v:=by
 have hj:j < xs.length:=(List.getElem?_eq_some_iff.mp h).1
 have e:Hz xs.length (j:Int)=some j:=by
  unfold Hz
  rw [if_pos (by omega),if_pos (by omega)]; simp
 unfold nJ; rw [e]; exact h
def y8 (b:Expr):Prop:=∀ o i,subscripted b false o i=operate [o,i] (getItem o i)
def Ft (X:Cx) (r:R2):Prop:=
 ∀ (value slice:Expr) (pins:List (Addr×Obj)) (s:Shared) (σ:St) (H:Hp) (x y:V) (v u:Value) (Q:VK),Inv X pins σ H s->RelV x v->RelV y u->r x y H Q->
   subscripted slice false v u=operate [v,u] (getItem v u)->wpAny (model X.prog X.w) X.A (subscriptTail value slice v u) (EP X pins σ Q) X.xe s
def O1 (X:Cx) (id:String) (r:V->List V->Hp->VK->Prop):Prop:=
 ∀ (pins:List (Addr×Obj)) (s:Shared) (σ:St) (H:Hp) (x:V) (xs:List V) (v:Value) (us:List Value) (Q:VK),Inv X pins σ H s->RelV x v->a4 xs us->r x xs H Q->
   wpAny (model X.prog X.w) X.A (call (.builtin id) (v :: us)) (EP X pins σ Q) X.xe s
section
variable {X:Cx} {a b:Expr} {ta tb:TE} {pos:Pos}
theorem Ft.or {r r':R2} (h:Ft X r) (h':Ft X r'):Ft X (fun x y H Q=>r x y H Q \/ r' x y H Q):=by
 intro value slice pins s σ H x y v u Q I rx ry q hs
 rcases q with q | q
 ·exact h value slice pins s σ H x y v u Q I rx ry q hs
 ·exact h' value slice pins s σ H x y v u Q I rx ry q hs
theorem L7 {r:R2} (hr:Ft X r) (ha:PE X a ta) (hb:PE X b tb) (hs:y8 b):PE X (.Subscript a b pos) (Lb r ta tb):=by
 intro pins s σ H Q I h
 exact Subscript_ (IP ha hb I h fun v u s2 x y H2 I2 rx ry q=>hr a b pins s2 σ H2 x y v u Q I2 rx ry q (hs _ _))
def L8 (K:PySem.W.Frag):R2:=fun x y H Q=>∃ p xs i v,x=.ref p /\ y=.int i /\ gN K H p xs /\ nJ xs i=some v /\ Q v H
def L9 (K:PySem.W.Frag):R2:=fun x y H Q=>∃ p xs i v,x=.ref p /\ y=.int i /\ jB K H p xs /\ nJ xs i=some v /\ Q v H
def Ma:R2:=fun x y H Q=>∃ z i c,x=.str z /\ y=.int i /\ z.length<=sizeLine /\ nJ z.cps.toList i=some c /\ Q (.str ⟨#[c]⟩) H
theorem Fu:Ft X (L8 X.K):=by
 intro value slice pins s σ H x y v u Q I rx ry h hs
 obtain ⟨p,xs,i,z,rfl,rfl,hq,he,q⟩:=h
 cases rx
 obtain ⟨t,rfl⟩:=ry
 obtain ⟨its,r,pl,hz⟩:=I.list hq
 obtain ⟨j,h1,h2,h3,h4,h5⟩:=rT he
 obtain ⟨w,ew,B3⟩:=r.get h2
 have hl:=r.length
 have hn:=mQ
 have fin:EP X pins σ Q w s:=⟨z,H,I,B3,q⟩
 by_cases h0:0<=i
 ·have hj:i.toNat=j:=by
   rw [seqIndex_of h0 h5] at h1
   exact Option.some.inj h1
  exact item_listR pl.isList h0 (by omega) (by rw [hj]; simpa using ew) fin hs
 ·have hj:(i + (its.toArray.size:Int)).toNat=j:=by
   rw [seqIndex_neg (by omega) h4] at h1
   rw [List.size_toArray,<- hl]
   exact Option.some.inj h1
  exact subscriptTail_builtinR (x:=w) pl.isList.typeIs slot_list_getitem.lookup
   (wpAny_getItem_list_neg (Q:=fun r s'=>r=w /\ EP X pins σ Q r s') pl.isList (by omega) (by rw [List.size_toArray] <;> omega) (by omega) (by rw [hj]; simpa using ew) ⟨rfl,fin⟩) hs
theorem Jd:Ft X (L9 X.K):=by
 intro value slice pins s σ H x y v u Q I rx ry h hs
 obtain ⟨p,xs,i,z,rfl,rfl,hq,he,q⟩:=h
 cases rx
 obtain ⟨t,rfl⟩:=ry
 obtain ⟨its,r,pl,hz⟩:=I.tuple hq
 obtain ⟨j,h1,h2,h3,h4,h5⟩:=rT he
 obtain ⟨w,ew,B3⟩:=r.get h2
 have hl:=r.length
 have hn:=mQ
 have fin:EP X pins σ Q w s:=⟨z,H,I,B3,q⟩
 exact subscriptTail_builtinR (x:=w) pl.typeIs slot_tuple_getitem.lookup
  (getItem_tuple (j:=j) (Q:=fun r s'=>r=w /\ EP X pins σ Q r s') pl (by omega) (by omega) (by rw [List.size_toArray,<- hl]; exact h1) (by simpa using ew) ⟨rfl,fin⟩) hs
theorem Je:Ft X Ma:=by
 intro value slice pins s σ H x y v u Q I rx ry h hs
 obtain ⟨z,i,c,rfl,rfl,hz,he,q⟩:=h
 obtain ⟨t,rfl⟩:=rx
 obtain ⟨t',rfl⟩:=ry
 obtain ⟨j,h1,h2,h3,h4,h5⟩:=rT he
 have hl:z.cps.toList.length=z.length:=by simp [Str.length]
 rw [hl] at h1 h4 h5
 have hn:=mQ
 exact tail_any (typeIs_str s z t) slot_str_getitem.lookup (getItem_str (c:=c) (by
  have e1:decide (i < -(2 ^ 63:Int))=false:=decide_eq_false (by omega)
  have e2:decide (i >=2 ^ 63)=false:=decide_eq_false (by omega)
  rw [e1,e2,Bool.or_false]) (by rw [h1]; simpa using h2) ⟨.str ⟨#[c]⟩,H,I.tok _,⟨_,rfl⟩,q⟩) hs
def UE (K:PySem.W.Frag):R2:=fun x y H Q=>L8 K x y H Q \/ L9 K x y H Q \/ Ma x y H Q
theorem Jf:Ft X (UE X.K):=Fu.or (Jd.or Je)
theorem rV (lo hi:Option Int) (n:Nat):(sliceBounds lo hi none n).1=((HT.qf n 0 lo:Nat):Int) /\ (sliceBounds lo hi none n).2.1=((HT.qf n n hi:Nat):Int) /\ (sliceBounds lo hi none n).2.2=1:=by
 refine ⟨?_,?_,rfl⟩
 ·cases lo with
  | none=>simp [sliceBounds,HT.qf]
  | some i=>
    simp only [sliceBounds,HT.qf,Option.getD_none,show (1:Int) > 0 by decide,if_true]
    by_cases h:i < 0
    ·simp only [h,if_true] <;> omega
    ·simp only [h,if_false] <;> omega
 ·cases hi with
  | none=>simp [sliceBounds,HT.qf]
  | some i=>
    simp only [sliceBounds,HT.qf,Option.getD_none,show (1:Int) > 0 by decide,if_true]
    by_cases h:i < 0
    ·simp only [h,if_true] <;> omega
    ·simp only [h,if_false] <;> omega
theorem qk (its:List Value) (lo hi:Option Int):slicePick its.toArray lo hi none=((its.drop (HT.qf its.length 0 lo)).take (HT.qf its.length its.length hi - HT.qf its.length 0 lo)).toArray:=by
 obtain ⟨h1,h2,h3⟩:=rV lo hi its.toArray.size
 unfold slicePick
 rw [h1,h2,h3]
 simp only [sliceRange_one,pick_run,List.size_toArray] <;> rfl
def O2 (K:PySem.W.Frag):V->Option Int->Option Int->Hp->VK->Prop:=fun x lo hi H Q=>∃ a xs,x=.ref a /\ gN K H a xs /\ ∀ p,H p=none->Q (.ref p) (upd H p (.lst (B2 xs lo hi)))
theorem Fv:UD X (O2 X.K):=by
 intro pins s σ H x v vl vu lo hi sl Q I rx hs pl pu h
 obtain ⟨a,xs,rfl,hx,q⟩:=h
 cases rx
 obtain ⟨its,r,ht,hz⟩:=I.list hx
 have hlen:=r.length
 refine ⟨"list",_,slot_list_getitem.lookup,ht.isList.typeIs,?_⟩
 refine wpAny_getItem_list_slice ht.isList hs pl pu .none (by simp) ?_ (by rw [List.size_toArray] <;> omega)
 rw [qk,<- hlen]
 refine ⟨.ref s.heap.objs.size,_,I.laid (t':=s.toks) (o:=.lst (B2 xs lo hi)) (fun b ob q=>Heap.get?_push_of_some _ q) (Nat.le_refl _) ?_,rfl,q _ (I.be.fresh (Nat.le_refl _))⟩
 exact ⟨Nat.le_trans (uK xs lo hi) hz,_,0,(r.drop (HT.qf xs.length 0 lo)).take (HT.qf xs.length xs.length hi - HT.qf xs.length 0 lo),Heap.get?_push_size _ rfl⟩
def j2:V->Bool
 | .gM=>true
 | .bl _=>true
 | .int _=>true
 | .str _=>true
 | _=>false
def ER:V->V->Bool
 | .gM,.gM=>true
 | .bl a,.bl b=>a == b
 | .bl a,.int b=>(if a then 1 else 0) == b
 | .int a,.bl b=>a == (if b then 1 else 0)
 | .int a,.int b=>a == b
 | .str a,.str b=>a == b
 | _,_=>false
theorem Jg {A:Around} {s:Shared} {y x:V} {u v:Value} (ry:RelV y u) (rx:RelV x v) (fy:j2 y=true) (fx:j2 x=true):SeqAt.EqAt A s u v (ER y x):=by
 cases y with
 | gM=>
   cases ry
   cases x with
   | gM=>cases rx; exact SeqAt.EqAt.same _
   | bl b=>cases rx; exact SeqAt.EqAt.none_bool b
   | int b=>obtain ⟨t,rfl⟩:=rx; exact SeqAt.EqAt.none_int b t
   | str b=>obtain ⟨t,rfl⟩:=rx; exact SeqAt.EqAt.none_str b t
   | _=>exact absurd (show false=true from fx) Bool.false_ne_true
 | bl a=>
   cases ry
   cases x with
   | gM=>cases rx; exact SeqAt.EqAt.bool_none a
   | bl b=>cases rx; exact SeqAt.EqAt.bool_bool a b
   | int b=>obtain ⟨t,rfl⟩:=rx; exact SeqAt.EqAt.bool_int a b t
   | str b=>obtain ⟨t,rfl⟩:=rx; exact SeqAt.EqAt.bool_str a b t
   | _=>exact absurd (show false=true from fx) Bool.false_ne_true
 | int a=>
   obtain ⟨t',rfl⟩:=ry
   cases x with
   | gM=>cases rx; exact SeqAt.EqAt.int_none a t'
   | bl b=>cases rx; exact SeqAt.EqAt.int_bool a t' b
   | int b=>obtain ⟨t,rfl⟩:=rx; exact SeqAt.EqAt.int_int a t' b t
   | str b=>obtain ⟨t,rfl⟩:=rx; exact SeqAt.EqAt.int_str a t' b t
   | _=>exact absurd (show false=true from fx) Bool.false_ne_true
 | str a=>
   obtain ⟨t',rfl⟩:=ry
   cases x with
   | gM=>cases rx; exact SeqAt.EqAt.str_none a t'
   | bl b=>cases rx; exact SeqAt.EqAt.str_bool a t' b
   | int b=>obtain ⟨t,rfl⟩:=rx; exact SeqAt.EqAt.str_int a t' b t
   | str b=>obtain ⟨t,rfl⟩:=rx; exact SeqAt.EqAt.str_str a t' b t
   | _=>exact absurd (show false=true from fx) Bool.false_ne_true
 | _=>exact absurd (show false=true from fy) Bool.false_ne_true
def xa (x:V) (u:Value):Bool:=match u with
 | .none=>ER .gM x
 | .bool b=>ER (.bl b) x
 | .int i _=>ER (.int i) x
 | .str z _=>ER (.str z) x
 | _=>false
theorem B4 {x y:V} {u:Value} (r:RelV y u) (f:j2 y=true):xa x u=ER y x:=by
 cases y with
 | gM=>cases r; rfl
 | bl b=>cases r; rfl
 | int i=>obtain ⟨t,rfl⟩:=r; rfl
 | str z=>obtain ⟨t,rfl⟩:=r; rfl
 | _=>exact absurd (show false=true from f) Bool.false_ne_true
theorem lW {x:V}:∀ {xs:List V} {us:List Value},a4 xs us->xs.all j2=true->us.any (xa x)=xs.any fun y=>ER y x
 | _,_,.nil,_=>rfl
 | y :: xs,u :: us,.cons r t,f=>by
   rw [List.all_cons,Bool.and_eq_true] at f
   rw [List.any_cons,List.any_cons,B4 r f.1,lW t f.2]
theorem ke {A:Around} {s:Shared} {x:V} {v:Value} (rx:RelV x v) (fx:j2 x=true):∀ {xs:List V} {us:List Value},a4 xs us->xs.all j2=true->∀ u∈us,SeqAt.EqAt A s u v (xa x u)
 | _,_,.nil,_=>fun u hu=>by cases hu
 | y :: xs,u :: us,.cons r t,f=>fun u' hu=>by
   rw [List.all_cons,Bool.and_eq_true] at f
   rcases List.mem_cons.mp hu with rfl | hu
   ·rw [B4 r f.1]; exact Jg r rx f.1 fx
   ·exact ke rx fx t f.2 u' hu
def Jh (x:V) (xs:List V):Bool:=xs.any fun y=>ER y x
def Lc (K:PySem.W.Frag) (neg:Bool):R2:=fun x y H Q=>∃ p xs,y=.ref p /\ (gN K H p xs \/ jB K H p xs) /\ j2 x=true /\ xs.all j2=true /\ Q (.bl (if neg then !Jh x xs else Jh x xs)) H
theorem Ab:gT X (compareOp .In) (Lc X.K false):=by
 intro pins s σ H x y v u Q I rx ry h
 obtain ⟨p,xs,rfl,hq,fx,fs,q⟩:=h
 cases ry
 rcases hq with hq | hq
 ·obtain ⟨its,r,pl,hz⟩:=I.list hq
  refine SeqAt.in_listAt (xa x) pl.isList (fun w hw=>ke rx fx r fs w (by simpa using hw)) ⟨.bl _,H,I,rfl,?_⟩
  rw [show its.toArray.any (xa x)=its.any (xa x) by simp,lW r fs]
  exact q
 ·obtain ⟨its,r,pl,hz⟩:=I.tuple hq
  refine SeqAt.in_tupleAt (xa x) pl (fun w hw=>ke rx fx r fs w (by simpa using hw)) ⟨.bl _,H,I,rfl,?_⟩
  rw [show its.toArray.any (xa x)=its.any (xa x) by simp,lW r fs]
  exact q
theorem rW:gT X (compareOp .NotIn) (Lc X.K true):=by
 intro pins s σ H x y v u Q I rx ry h
 obtain ⟨p,xs,rfl,hq,fx,fs,q⟩:=h
 cases ry
 rcases hq with hq | hq
 ·obtain ⟨its,r,pl,hz⟩:=I.list hq
  refine SeqAt.notIn_listAt (xa x) pl.isList (fun w hw=>ke rx fx r fs w (by simpa using hw)) ⟨.bl _,H,I,rfl,?_⟩
  rw [show its.toArray.any (xa x)=its.any (xa x) by simp,lW r fs]
  exact q
 ·obtain ⟨its,r,pl,hz⟩:=I.tuple hq
  refine SeqAt.notIn_tupleAt (xa x) pl (fun w hw=>ke rx fx r fs w (by simpa using hw)) ⟨.bl _,H,I,rfl,?_⟩
  rw [show its.toArray.any (xa x)=its.any (xa x) by simp,lW r fs]
  exact q
theorem rX:ee X (.builtin "len") (fun xs H Q=>∃ p ys,xs=[.ref p] /\ (gN X.K H p ys \/ jB X.K H p ys) /\ Q (.int ys.length) H):=by
 intro pins s σ H xs us Q I r h
 obtain ⟨p,ys,rfl,hq,q⟩:=h
 obtain ⟨u,rfl,rx⟩:=vals1 r
 cases rx
 have hn:=mQ
 rcases hq with hq | hq
 ·obtain ⟨its,r',pl,hz⟩:=I.list hq
  have hlen:=r'.length
  exact Calls.call_len_list pl.isList (by simp only [List.size_toArray] <;> omega) ⟨.int ys.length,H,I.tok _,⟨s.toks + 1,by rw [List.size_toArray,hlen]⟩,q⟩
 ·obtain ⟨its,r',pl,hz⟩:=I.tuple hq
  have hlen:=r'.length
  exact len_tuple pl (by simp only [List.size_toArray] <;> omega) ⟨.int ys.length,H,I.tok _,⟨s.toks + 1,by rw [List.size_toArray,hlen]⟩,q⟩
theorem rY:ee X (.builtin "len") (fun xs H Q=>∃ z,xs=[.str z] /\ z.length<=sizeLine /\ Q (.int z.length) H):=by
 intro pins s σ H xs us Q I r h
 obtain ⟨z,rfl,hz,q⟩:=h
 obtain ⟨u,rfl,t,rfl⟩:=vals1 r
 have hn:=mQ
 exact len_str (by omega) ⟨.int z.length,H,I.tok _,⟨_,rfl⟩,q⟩
theorem ee.or {f:Value} {r r':List V->Hp->VK->Prop} (h:ee X f r) (h':ee X f r'):ee X f (fun xs H Q=>r xs H Q \/ r' xs H Q):=by
 intro pins s σ H xs us Q I rs q
 rcases q with q | q
 ·exact h pins s σ H xs us Q I rs q
 ·exact h' pins s σ H xs us Q I rs q
theorem dN:ee X (.type "list") (fun xs H Q=>∃ p ys,xs=[.ref p] /\ (gN X.K H p ys \/ jB X.K H p ys) /\ ∀ l,H l=none->Q (.ref l) (upd H l (.lst ys))):=by
 intro pins s σ H xs us Q I r h
 obtain ⟨p,ys,rfl,hq,q⟩:=h
 obtain ⟨u,rfl,rx⟩:=vals1 r
 cases rx
 have fin:∀ (its:List Value),a4 ys its->ys.length<=sizeLine->∀ (h':Heap) (c':Nat),(∀ b o',s.heap.get? b=some o'->h'.get? b=some o')->
   h'.get? s.heap.objs.size=some { cls:=.type "list",dict:=none,data:=.seq its.toArray c',slots:=#[] }->EP X pins σ Q (.ref s.heap.objs.size) { s with heap:=h' }:=fun its r' hz h' c' kp e=>
  ⟨.ref s.heap.objs.size,_,I.laid (t':=s.toks) kp (Nat.le_refl _) (show bN X.prog X.w _ h' _ (.lst ys) from ⟨hz,its,c',r',e⟩),rfl,q _ (I.be.fresh (Nat.le_refl _))⟩
 rcases hq with hq | hq
 ·obtain ⟨its,r',pl,hz⟩:=I.list hq
  have hlen:=r'.length
  obtain ⟨o,ho,hc,n,hd⟩:=pl.isList
  exact call_list_seq p (.inl rfl) ho hc hd (fun h' c' kp e=>fin its r' hz h' c' kp e) (by simp only [List.size_toArray] <;> omega)
 ·obtain ⟨its,r',pl,hz⟩:=I.tuple hq
  have hlen:=r'.length
  obtain ⟨o,ho,hc,n,hd⟩:=pl
  exact call_list_seq p (.inr rfl) ho hc hd (fun h' c' kp e=>fin its r' hz h' c' kp e) (by simp only [List.size_toArray] <;> omega)
theorem fW:ee X (.type "tuple") (fun xs H Q=>∃ p ys,xs=[.ref p] /\ ((gN X.K H p ys /\ ∀ l,H l=none->Q (.ref l) (upd H l (.tup ys))) \/ (jB X.K H p ys /\ Q (.ref p) H))):=by
 intro pins s σ H xs us Q I r h
 obtain ⟨p,ys,rfl,h⟩:=h
 obtain ⟨u,rfl,rx⟩:=vals1 r
 cases rx
 rcases h with ⟨hq,q⟩ | ⟨hq,q⟩
 ·obtain ⟨its,r',pl,hz⟩:=I.list hq
  have hlen:=r'.length
  refine call_tuple_list pl.isList (fun h' kp=>?_) (by simp only [List.size_toArray] <;> omega)
  have I1:Inv X pins σ H { s with heap:=h' }:=I.kept (t':=s.toks) kp
  have I2:Inv X pins σ (upd H h'.objs.size (.tup ys)) { s with heap:=h'.push { cls:=.type "tuple",data:=.seq its.toArray } }:=
   I1.laid (t':=s.toks) (fun b o e=>Heap.get?_push_of_some _ e) (Nat.le_refl _) (show bN X.prog X.w _ _ _ (.tup ys) from ⟨hz,its,r',IsTup.new _ _⟩)
  exact ⟨.ref h'.objs.size,_,I2,rfl,q _ (I1.be.fresh (Nat.le_refl _))⟩
 ·obtain ⟨its,r',pl,hz⟩:=I.tuple hq
  exact call_tuple_same pl ⟨.ref p,H,I,rfl,q⟩
def UG (K:PySem.W.Frag) (T:String) (x:V) (H:Hp):Prop:=match x with
 | .str _=>T="str"
 | .int _=>T="int"
 | .ref p=>(T="list" /\ ∃ xs,gN K H p xs) \/ (T="tuple" /\ ∃ o,K.lookup p=some o /\ o.cls=.type "tuple" /\ o.dict=none) \/
   (T="dict" /\ ((∃ aF,H p=some (.dK aF)) \/ ∃ aF,H p=some (.dT aF))) \/ (T="set" /\ ∃ S n,H p=some (.set S n))
 | _=>False
theorem Ji {pins:List (Addr×Obj)} {σ:St} {H:Hp} {s:Shared} {T:String} {x:V} {v:Value} (I:Inv X pins σ H s) (r:RelV x v) (ty:UG X.K T x H):
  s.TypeIs v T /\ ∀ a,v=.ref a->∃ ob,s.heap.get? a=some ob /\ ob.dict=none:=by
 cases x with
 | str z=>
   obtain ⟨t,rfl⟩:=r
   cases (show T="str" from ty)
   exact ⟨typeIs_str s z t,fun _ e=>nomatch e⟩
 | int i=>
   obtain ⟨t,rfl⟩:=r
   cases (show T="int" from ty)
   exact ⟨typeIs_int s i t,fun _ e=>nomatch e⟩
 | ref p=>
   cases r
   rcases ty with ⟨rfl,xs,hq⟩ | ⟨rfl,o,hk,hc,hd⟩ | ⟨rfl,hk⟩ | ⟨rfl,S,n,hk⟩
   ·obtain ⟨its,_,pl,_⟩:=I.list hq
    refine ⟨pl.isList.typeIs,fun a e=>?_⟩
    cases e
    obtain ⟨o,n,e,c,hd,_⟩:=pl
    exact ⟨o,e,hd⟩
   ·refine ⟨⟨o,I.kU p o hk,hc⟩,fun a e=>?_⟩
    cases e
    exact ⟨o,I.kU _ o hk,hd⟩
   ·have z:∃ o,s.heap.get? p=some o /\ o.ExactDict:=by
     rcases hk with ⟨aF,hk⟩ | ⟨aF,hk⟩
     ·obtain ⟨_,_,_,_,o,_,_,e,ex,_⟩:=I.be p _ hk
      exact ⟨o,e,ex⟩
     ·obtain ⟨_,_,_,_,o,_,_,e,ex,_⟩:=I.be p _ hk
      exact ⟨o,e,ex⟩
    obtain ⟨o,e,ex⟩:=z
    refine ⟨⟨o,e,ex.1⟩,fun a e2=>?_⟩
    cases e2
    exact ⟨o,e,ex.2.1⟩
   ·obtain ⟨o,_,_,_,e,ex,_⟩:=I.be p _ hk
    refine ⟨⟨o,e,ex.1⟩,fun a e2=>?_⟩
    cases e2
    exact ⟨o,e,ex.2.1⟩
 | _=>exact False.elim ty
def O3 (K:PySem.W.Frag) (T:String) (r:V->List V->Hp->VK->Prop) (to:TE) (t:TA):TE:=fun σ H Q=>to σ H fun x H1=>UG K T x H1 /\ t σ H1 fun xs H2=>r x xs H2 Q
variable {o e:Expr} {es:List Expr} {to:TE} {t:TA} {name:Str} {apos dO:Pos} {T id:String} {r:V->List V->Hp->VK->Prop}
theorem lX (pa:PlainAttrs T) (slot:Slot T name id) (V1:typeOf (.builtin id)=pure (.type "method_descriptor")) (hm:O1 X id r) (ho:PE X o to) (ha:PA X (e :: es) t)
  (B5:attributeBase o name X.env (eval o X.env)=eval o X.env:=by rfl)
  (Jj:((backTo dO (starEach (e :: es) X.env)).all (fun x=> !x.1) && (backToKw dO (keywordEach [] X.env)).all (fun x=>x.1.isSome)
   && decide ((e :: es).length + ([]:List Keyword).length + (if ([]:List Keyword).isEmpty then 0 else 1) < 30))=true:=by rfl)
  (B6:(apos.endLine == dO.line)=true:=by rfl) (hs:starEach (e :: es) X.env=(false,eval e X.env) :: starEach es X.env:=by rfl) (xb:(backTo dO (starEach es X.env)).any (·.1)=false:=by rfl):
  PE X (.Call (.Attribute o name apos) (e :: es) [] dO) (O3 X.K T r to t):=by
 intro pins s σ H Q I h
 refine wpAny_Call_method_late B5 Jj B6 rfl (cO (ho pins s σ H _ I h) fun v s1 ⟨x,H1,I1,r1,ty,q1⟩=>?_)
 obtain ⟨h1,h2⟩:=Ji I1 r1 ty
 refine ⟨T,id,pa,slot,V1,h1,h2,?_⟩
 have hA:=ha dO pins s1 σ H1 _ I1 q1
 rw [hs] at hA ⊢
 refine Calls.callWith_builtin (by show (false || (backTo dO (starEach es X.env)).any (·.1))=false; rw [xb] <;> rfl) (Calls.evalArgs_plain ?_)
 exact cO hA fun us s2 ⟨vs,H2,I2,r2,q2⟩=>hm pins s2 σ H2 x vs v us Q I2 r1 r2 q2
/- xs.append(e),list.index on a module's tuple .. are O1 facts of 06m -/
end
def UH (X:Cx) (id:String) (r:V->List V->Hp->VK->Prop):Prop:=
 ∀ (pins:List (Addr×Obj)) (s:Shared) (σ:St) (H:Hp) (x:V) (xs:List V) (v:Value) (us:List Value) (Q:VK),Inv X pins σ H s->RelV x v->a4 xs us->r x xs H Q->
   wpAny (model X.prog X.w) X.A (call (.builtin id) (v :: us)) (EP X pins σ Q) X.xe s
theorem a4.one:∀ {x:V} {us:List Value},a4 [x] us->∃ u,us=[u] /\ RelV x u
 | _,_,.cons r .nil=>⟨_,rfl,r⟩
theorem a4.reverse {xs:List V} {us:List Value} (h:a4 xs us):a4 xs.reverse us.reverse:=by
 induction h with
 | nil=>exact .nil
 | cons r t ih=>rw [List.reverse_cons,List.reverse_cons]; exact a4.append ih (.cons r .nil)
section
variable {X:Cx} {pins:List (Addr×Obj)} {σ:St} {H:Hp} {s:Shared} {l b:Addr} {xs ys zs:List V}
theorem Inv.Mb {its its':List Value} {n:Nat} {f:Array Value->Array Value} {t':Nat} (I:Inv X pins σ H s) (hH:H l=some (.lst xs))
  (e:s.heap.get? l=some { cls:=.type "list",data:=.seq its.toArray n }) (hf:f its.toArray=its'.toArray) (hv:a4 ys its') (hz:ys.length<=sizeLine):
  Inv X pins σ (upd H l (.lst ys)) { s with heap:=s.heap.update l (Obj.mapSeq f),toks:=t' }:=by
 have q:=PySem.IsL.update e f
 rw [hf] at q
 refine I.write (x:=l) (e:=l) (by rw [hH]; exact trivial) (.inl rfl) (fun b' u hb hu=>(Heap.get?_update_other s.heap (Obj.mapSeq f) (Ne.symm hb)).trans hu) ⟨_,q⟩ ?_
 exact ⟨hz,its',_,hv,q⟩
theorem Inv.O4 {its:List Value} {t':Nat} (I:Inv X pins σ H s) (hv:a4 ys its) (hz:ys.length<=sizeLine):
  Inv X pins σ (upd H s.heap.objs.size (.lst ys)) { s with heap:=s.heap.push { cls:=.type "list",data:=.seq its.toArray },toks:=t' }:=
 I.laid (fun _ _ q=>Heap.get?_push_of_some _ q) (Nat.le_refl _) ⟨hz,its,0,hv,Heap.get?_push_size _ rfl⟩
theorem Inv.fresh (I:Inv X pins σ H s):H s.heap.objs.size=none:=I.be.fresh (Nat.le_refl _)
theorem Inv.Jk (I:Inv X pins σ H s) (hH:H l=some (.lst xs)):xs.length<=sizeLine /\ ∃ (its:List Value) (n:Nat),a4 xs its /\ xs.length=its.length /\ s.heap.get? l=some { cls:=.type "list",data:=.seq its.toArray n }:=by
 obtain ⟨z,its,n,r,e⟩:=I.be l _ hH
 exact ⟨z,its,n,r,r.length,e⟩
theorem B7 {n:Nat} (h:n<=sizeLine):Builtin.List.listTooLong n=false:=by
 unfold Builtin.List.listTooLong
 exact decide_eq_false (by omega)
end
section
variable {X:Cx}
def y9:V->List V->Hp->VK->Prop:=fun x vs H Q=>∃ l xs y,x=.ref l /\ vs=[y] /\ H l=some (.lst xs) /\ xs.length < sizeLine /\ Q .gM (upd H l (.lst (xs ++ [y])))
theorem jf:UH X "list.append" y9:=by
 intro pins s σ H x vs v us Q I rx rv h
 obtain ⟨l,xs,y,rfl,rfl,hH,hz,q⟩:=h
 cases rx
 obtain ⟨u,rfl,ru⟩:=rv.one
 obtain ⟨z,its,n,r,hl,e⟩:=I.Jk hH
 refine call_meets F.slot_list_append ⟨_,e,rfl⟩ F.entry_list_append (F.args_list_append_2 _ _) (PySem.list_append l its.toArray n u (by rw [List.size_toArray]; omega)) ⟨e,?_⟩
 refine ⟨.gM,_,I.Mb (its':=its ++ [u]) hH e (by simp) (r.append (.cons ru .nil)) ?_,rfl,q⟩
 rw [List.length_append,List.length_singleton]
 omega
def za:V->List V->Hp->VK->Prop:=fun x vs H Q=>∃ l b xs zs,x=.ref l /\ vs=[.ref b] /\ H l=some (.lst xs) /\ H b=some (.lst zs) /\ xs.length + zs.length<=sizeLine /\ Q .gM (upd H l (.lst (xs ++ zs)))
theorem mV:UH X "list.extend" za:=by
 intro pins s σ H x vs v us Q I rx rv h
 obtain ⟨l,b,xs,zs,rfl,rfl,hH,hB,hz,q⟩:=h
 cases rx
 obtain ⟨u,rfl,ru⟩:=rv.one
 cases ru
 obtain ⟨z,its,n,r,hl,e⟩:=I.Jk hH
 obtain ⟨z2,qj,n2,r2,xf,e2⟩:=I.Jk hB
 have hsz:its.toArray.size + qj.toArray.size<=sizeLine:=by rw [List.size_toArray,List.size_toArray]; omega
 have Mc:¬ (!its.toArray.isEmpty && Builtin.List.listTooLong (its.toArray.size + qj.toArray.size))=true:=by
  rw [B7 hsz,Bool.and_false]
  exact Bool.false_ne_true
 refine call_meets F.slot_list_extend ⟨_,e,rfl⟩ F.entry_list_extend (F.args_list_extend_2 _ _)
  (AutoSeq1.list_extend_list_list_0 l its.toArray n b qj.toArray n2 Mc (by rw [List.size_toArray]; omega) (by omega)) ⟨e,e2,?_⟩
 refine ⟨.gM,_,I.Mb (its':=its ++ qj) hH e (by simp) (r.append r2) ?_,rfl,q⟩
 rw [List.length_append]
 omega
end
section
variable {prog:Program} {w:World} {A:Around} {E:Value->Shared->Prop} {s:Shared}
end
section
variable {X:Cx}
end
end L2
namespace UI
open PySem PySem.W PySem.Calls PyProof.Rows
theorem n9 {P:Params} {h:Heap}:∀ (ns:List Int) (vs:List Value),WellAll P h vs (ns.map WData.int)->IntsAre vs ns:=by
 intro ns
 induction ns with
 | nil=>
   intro vs w
   rw [List.map_nil] at w
   cases w
   exact .nil
 | cons n ns ih=>
   intro vs w
   rw [List.map_cons] at w
   cases w with
   | cons a b=>
     cases a
     exact .cons _ _ (ih _ b)
theorem Ac {l:OpenLaw} {n:Nat} (hn:l.most=some n) {P:Params} {h:Heap} {args:List WData} {vals:List Value}
  (Fw:l.row.toRowW.claim.pre args=true) (NY:WellAll P h vals args):
  ∃ a vs ns,vals=[Value.ref a] /\ args=[WData.list (ns.map WData.int)] /\ h.get? a=some { cls:=.type "list",data:=.seq vs.toArray } /\ IntsAre vs ns /\ ns.length<=n:=by
 have hsh:WShape.hasAll [] args [.list .int]=true:=(pre_splitW Fw).1
 have hc:l.pre.holds [] { args:=args }=true:=(pre_splitW Fw).2
 obtain ⟨d,r,rfl,h1,h2⟩:=hasAllW_cons hsh
 obtain rfl:=hasAllW_nil h2
 obtain ⟨xs,rfl,h3⟩:=hasW_list h1
 obtain ⟨ns,rfl⟩:=items_int h3
 have hlen:ns.length<=n:=by
  unfold OpenLaw.pre at hc
  have h4:(WTm.not (.lt (.lit (.int (n:Int))) (.len (.arg 0)))).holds [] { args:=[.list (ns.map .int)] }=true:=by
   have h4:=(holds_andW hc).1
   rw [hn] at h4
   exact h4
  have h5:=condW_of h4 (w_not (w_lt w_lit (w_len_list (w_arg rfl))))
  rw [List.length_map] at h5
  refine Nat.le_of_not_lt fun q=>?_
  have q':(n:Int) < ((ns.length:Nat):Int):=by omega
  first
   | (rw [decide_eq_true q'] at h5; exact absurd h5 (by decide))
   | (simp at h5; omega)
 cases NY with
 | cons w1 w2=>
   cases w2
   cases w1 with
   | list ho Fy=>exact ⟨_,_,ns,rfl,rfl,ho,n9 ns _ Fy,hlen⟩
theorem Ad (l:OpenLaw) (args:List WData):l.row.toRowW.claim.post args (.bool true) args=true:=
 postW_of (r:=l.row.toRowW) (X:=(true == true))
  (show WShape.has [] (.bool true) .bool=true by first | rfl | decide | simp [WShape.has,WShape.arms,WShape.armsAll])
  (show (WTm.eq .res (.lit (.bool true))).value [] { args:=args,res:=some (.bool true),after:=args }=some (.bool (true == true)) from w_eq_bool (w_res rfl) w_lit) rfl
theorem uL {l:OpenLaw} {n:Nat} {q:Program} {loose:List Str} {XP:(Str->Option Value)->Heap->Prop} {YP:World->Heap->Prop} {d:DefRec}
  (hn:l.most=some n) (Md:d.params.defaults=[])
  (call:∀ (w:World) (fm bf:Shared) (mg mb:Str->Option Value) (fa:Addr) (o:Obj) (pm cd doc:Value) (a:Addr) (vs:List Value) (ns:List Int),
   Ground q loose [] XP w fm mg mb bf.heap->YP w bf.heap->
   bf.heap.get? fa=some o->o.data=.func (docDef d.name d.params d.body d.scope pm cd doc)->bf.heap.CodeRec cd d.name->mg d.name=some (.ref fa)->
   bf.heap.get? a=some { cls:=.type "list",data:=.seq vs.toArray }->IntsAre vs ns->ns.length<=n->bf.gens=#[]->
   codeAny (model l.prog w) callerA (.call (.ref fa) ⟨[.ref a],[]⟩) (fun r s'=>r=.ok (.ret (.bool true)) /\ OldK bf.heap s'.heap /\ s'.os=bf.os /\ AllBare s'.gens) bf):
  WalkO q loose XP YP l.row.toRowW d [] (fun f vs=>PySem.call f vs):=by
 intro w fm bf mg mb G Y fa o pm cd doc dV kV ho hd mO hD Me hg args vals as Fw V2 Z2 NY Z3
 obtain rfl:dV=.none:=Dflts.none hD Md
 obtain rfl:kV=.none:=Dflts.noKw hD
 obtain ⟨a,vs,ns,rfl,rfl,B8,hints,hlen⟩:=Ac hn Fw NY
 refine enter_call (codeAny_mono (call w fm bf mg mb fa o pm cd doc a vs ns G Y ho (fd_plain hd) mO Me B8 hints hlen hg) fun r s' hq=>?_)
 obtain ⟨rfl,h2,h3,h4⟩:=hq
 exact ⟨.inl ⟨.bool true,.bool true,[],rfl,fun _=>rfl,.bool true,Ad l _,fun _=>⟨List.Pairwise.nil,fun _ hm=>(nomatch hm)⟩⟩,h2,h3,h4⟩
section
variable {prog:Program} {w:World} {A:Around} {E:Value->Shared->Prop} {s:Shared} {K:Frag}
end
end UI
namespace L2
open PySem PySem.Spec PyProof.Rows
theorem qZ:∀ {vs:List Value} {ns:List Int},IntsAre vs ns->a4 (ns.map V.int) vs
 | _,_,.nil=>.nil
 | _,_,.cons n t h=>.cons ⟨t,rfl⟩ (qZ h)
def V3 (H:Hp):Prop:=∀ b,H b=none \/ ∃ o xs,H b=some (.n6 o (.lst xs))
def wK (K:PySem.W.Frag) (H:Hp) (a:Addr) (xs:List V):Prop:=
 Rd H a (.lst xs) \/ ∃ (its:List Value) (n:Nat),K.lookup a=some { cls:=.type "list",data:=.seq its.toArray n } /\ its.length<=sizeLine /\ a4 xs its
abbrev mF:BX:=fun _ _ _ _ _ _=>False
abbrev E0:XK:=fun _ _ _=>False
theorem HA {X:Cx}:mS mF X E0:=fun _ _ _ _ _ _ _ h=>h.elim
structure j6 (K:PySem.W.Frag) (x qual:Str) (st:Stmt) (f:Addr) (fd:FuncData):Prop where
 ex:∃ (oc:Value) (od:Option Addr) (kV doc pm:Value) (an:Option Addr) (bZ ct:Value) (y6:Array (Option Value)),
  fd=PySem.W.fnOf x qual (jw st) (cz st) (ai st) .none kV doc pm an bZ ct /\ K.lookup f=some ⟨oc,od,.func fd,y6⟩ /\ PySem.W.codeIn K bZ qual=true
 kp:PySem.W.keepIn K (.ref f)=true
section
variable {P:Program} {w:World} {K:PySem.W.Frag} {mg:Str->Option Value} {base:Heap}
theorem j6.ok {x qual:Str} {st:Stmt} {f:Addr} {fd:FuncData} {N ps:List Str} {k:Nat} {sp:Sp} (F:j6 K x qual st f fd) (S:aN N ps (ai st)) (len:∀ vs H Q E,sp vs H Q E->vs.length=ps.length)
  (gq:∀ (bZ:Value) (A:Around) (outer:List Env) (s:Shared) (H:Hp) (vs:List V) (Q:VK) (E:XK),cy k (A.deeper (envOfC qual (ai st) s.heap.objs.size f bZ))->sp vs H Q E->
   ∃ t,jy (gO mF P w K mg base N qual (ai st) f bZ A outer s H E).BG (cz st) t /\ t { nx:=fun _ H'=>Q .gM H',rt:=Q } (start N vs) H):lb P w K mg base mF (k + 1) f fd ps sp:=by
 obtain ⟨oc,od,kV,doc,pm,an,bZ,ct,y6,rfl,lk,mO⟩:=F.ex
 refine BZ lk mO S len fun A outer s H vs Q E hr uJ=>?_
 obtain ⟨t,h,q⟩:=gq bZ A outer s H vs Q E hr uJ
 exact ⟨t,h.BG,q⟩
theorem j6.binds {x qual:Str} {st:Stmt} {f:Addr} {fd:FuncData} {ps:List Str} (F:j6 K x qual st f fd)
  (h:∀ (kV doc pm:Value) (an:Option Addr) (bZ ct:Value) (us:List Value),us.length=ps.length->bindArgs (PySem.W.fnOf x qual (jw st) (cz st) (ai st) .none kV doc pm an bZ ct) ⟨us,[]⟩=pure (ps.zip us)):Binds K fd ps []:=by
 obtain ⟨oc,od,kV,doc,pm,an,bZ,ct,y6,rfl,lk,mO⟩:=F.ex
 exact .all (h kV doc pm an bZ ct)
theorem bE {x qual:Str} {st:Stmt} {f:Addr} {oc:Value} {od an:Option Addr} {y6:Array (Option Value)} {kV doc pm bZ ct:Value} (l:K.lookup f=some ⟨oc,od,.func (PySem.W.fnOf x qual (jw st) (cz st) (ai st) .none kV doc pm an bZ ct),y6⟩)
  (c:PySem.W.codeIn K bZ qual=true) (k:PySem.W.keepIn K (.ref f)=true):j6 K x qual st f (PySem.W.fnOf x qual (jw st) (cz st) (ai st) .none kV doc pm an bZ ct):=⟨⟨oc,od,kV,doc,pm,an,bZ,ct,y6,rfl,l,c⟩,k⟩
end
def Jl:Option NameKind->Bool
 | some .local=>true
 | some .cell=>true
 | some .free=>true
 | _=>false
theorem B9 {sc:Scope} {x:Str} (h:Jl (sc.names.lookup x)=true):K8 sc x:=by
 unfold K8
 cases e:sc.names.lookup x with
 | none=>rw [e] at h; cases h
 | some k=>
   rw [e] at h
   cases k <;> first | exact .inl rfl | exact .inr (.inl rfl) | exact .inr (.inr rfl) | cases h
section
variable {X:Cx}
theorem pv (i:Nat) {x:Str} {pos:Pos} (hN:X.N[i]?=some x:=by rfl) (hv:Jl (X.env.scope.names.lookup x)=true:=by rfl) (hd:(x == ("__debug__":Str))=false:=by decide)
  (mO:(x == ("__classdict__":Str))=false:=by decide):PE X (.Name x pos) (uz i):=BE hN (B9 hv) hd mO
end
def aA (H H':Hp):Prop:=∀ b o,H b=some o->H' b=some o
theorem aA.refl (H:Hp):aA H H:=fun _ _ h=>h
theorem aA.trans {H H1 H2:Hp} (a:aA H H1) (b:aA H1 H2):aA H H2:=fun c o h=>b c o (a c o h)
theorem aA.free {H H':Hp} (e:aA H H') {l:Addr} (h:H' l=Option.none):H l=Option.none:=by
 cases q:H l with
 | none=>rfl
 | some o=>
   rw [e l o q] at h
   cases h
section
variable {κ:Type} [DecidableEq κ]
def lg (aF:List (κ×V)) (k:κ):Option V:=(aF.find? fun kv=>decide (kv.1=k)).map (·.2)
def putK (aF:List (κ×V)) (k:κ) (v:V):List (κ×V):=
 if (aF.any fun kv=>decide (kv.1=k))=true then aF.map (fun kv=>if kv.1=k then (kv.1,v) else kv) else aF ++ [(k,v)]
theorem lY {p:κ×V} {r:List (κ×V)} {k:κ} (e:p.1=k):lg (p :: r) k=some p.2:=by simp [lg,List.find?_cons,e]
theorem lZ {p:κ×V} {r:List (κ×V)} {k:κ} (e:¬ p.1=k):lg (p :: r) k=lg r k:=by simp [lg,List.find?_cons,e]
theorem oK (k:κ):∀ aF:List (κ×V),(aF.any fun kv=>decide (kv.1=k))=(lg aF k).isSome
 | []=>rfl
 | p :: r=>by
   rw [List.any_cons]
   by_cases e:p.1=k
   ·simp only [lY e,decide_eq_true e,Bool.true_or,Option.isSome_some]
   ·rw [lZ e,decide_eq_false e,Bool.false_or]; exact oK k r
theorem nK (aF:List (κ×V)) (k:κ) (v:V):(putK aF k v).length<=aF.length + 1:=by
 unfold putK
 split
 ·rw [List.length_map]; omega
 ·rw [List.length_append,List.length_cons,List.length_nil]; omega
theorem mI.jg {o:Option V} {u:Option Value} (r:mI o u):o.isSome=u.isSome:=by
 cases o with
 | none=>cases u with
   | none=>rfl
   | some _=>exact (show False from r).elim
 | some _=>cases u with
   | none=>exact (show False from r).elim
   | some _=>rfl
theorem mI.getD {o:Option V} {u:Option Value} {d:V} {d':Value} (r:mI o u) (rd:RelV d d'):RelV (o.getD d) (u.getD d'):=by
 cases o with
 | none=>cases u with
   | none=>exact rd
   | some _=>exact (show False from r).elim
 | some _=>cases u with
   | none=>exact (show False from r).elim
   | some _=>exact r
theorem KV.val {aF:List (κ×V)} {vs:List (κ×Value)} (r:KV aF vs) (k:κ):mI (lg aF k) (valueAt vs k):=by
 unfold KV at r
 induction r with
 | nil=>exact True.intro
 | @cons p q ps qs h t ih=>
   obtain ⟨h1,h2⟩:=h
   by_cases e:p.1=k
   ·have e':q.1=k:=h1.symm.trans e
    have b:valueAt (q :: qs) k=some q.2:=by simp [valueAt,List.find?_cons,e']
    rw [lY e,b]; exact h2
   ·have e':¬ q.1=k:=fun z=>e (h1.trans z)
    have b:valueAt (q :: qs) k=valueAt qs k:=by simp [valueAt,List.find?_cons,e']
    rw [lZ e,b]; exact ih
theorem KV.any {aF:List (κ×V)} {vs:List (κ×Value)} (r:KV aF vs) (k:κ):(aF.any fun kv=>decide (kv.1=k))=vs.any fun kv=>decide (kv.1=k):=by
 unfold KV at r
 induction r with
 | nil=>rfl
 | cons h t ih=>rw [List.any_cons,List.any_cons,ih,h.1]
theorem KV.Jm {aF:List (κ×V)} {vs:List (κ×Value)} (r:KV aF vs) (k:κ) {y:V} {u:Value} (ry:RelV y u):
  KV (aF.map fun kv=>if kv.1=k then (kv.1,y) else kv) (vs.map fun kv=>if kv.1=k then (kv.1,u) else kv):=by
 unfold KV at r ⊢
 induction r with
 | nil=>exact .nil
 | @cons p q ps qs h t ih=>
   rw [List.map_cons,List.map_cons]
   refine .cons ?_ ih
   obtain ⟨h1,h2⟩:=h
   by_cases e:p.1=k
   ·rw [if_pos e,if_pos (h1.symm.trans e)]; exact ⟨h1,ry⟩
   ·rw [if_neg e,if_neg (fun z=>e (h1.trans z))]; exact ⟨h1,h2⟩
theorem KV.put {aF:List (κ×V)} {vs:List (κ×Value)} (r:KV aF vs) (k:κ) {y:V} {u:Value} (ry:RelV y u):KV (putK aF k y) (stored vs k u):=by
 unfold putK stored
 rw [r.any k]
 by_cases e:(vs.any fun kv=>decide (kv.1=k))=true
 ·rw [if_pos e,if_pos e]; exact r.Jm k ry
 ·rw [if_neg e,if_neg e]; exact Paired.snoc r ⟨rfl,ry⟩
theorem KV.length {aF:List (κ×V)} {vs:List (κ×Value)} (r:KV aF vs):aF.length=vs.length:=Paired.length r
end
theorem ra {P:Program} {w:World} {k:Key} {u:Value} (r:RelV (kV k) u):(cP P w).is k u=true:=by
 cases k with
 | inl i=>obtain ⟨t,e⟩:=(show ∃ t,u=Value.int i t from r); subst e; exact uw P w i t
 | inr x=>obtain ⟨t,e⟩:=(show ∃ t,u=Value.str x t from r); subst e; exact ux P w x t
theorem rb {P:Program} {w:World}:∀ {ks:List Key} {us:List Value},a4 (ks.map kV) us->ItemsAre (cP P w) ks us
 | [],_,r=>by rw [List.map_nil] at r; cases r; exact .nil
 | k :: ks,_,r=>by
   rw [List.map_cons] at r
   cases r with
   | cons h t=>exact .cons (ra h) (rb t)
abbrev KT (H:Hp):List (List Key×V)->List (List Key×Addr×Value)->Prop:=Paired fun p q=>p.1=q.1 /\ de H q.2.1 (p.1.map kV) /\ RelV p.2 q.2.2
theorem KT.val {H:Hp} {aF:List (List Key×V)} {xs:List (List Key×Addr×Value)} (r:KT H aF xs) (k:List Key):mI (lg aF k) ((atKey xs k).map (·.2)):=by
 induction r with
 | nil=>exact True.intro
 | @cons p q ps qs h t ih=>
   obtain ⟨h1,_,h2⟩:=h
   by_cases e:p.1=k
   ·have e':q.1=k:=h1.symm.trans e
    have b:atKey (q :: qs) k=some q.2:=by simp [atKey,List.find?_cons,e']
    rw [lY e,b]; exact h2
   ·have e':¬ q.1=k:=fun z=>e (h1.trans z)
    have b:atKey (q :: qs) k=atKey qs k:=by simp [atKey,List.find?_cons,e']
    rw [lZ e,b]; exact ih
theorem KT.Jm {H:Hp} {aF:List (List Key×V)} {xs:List (List Key×Addr×Value)} (r:KT H aF xs) (k:List Key) {y:V} {u:Value} (ry:RelV y u):
  KT H (aF.map fun kv=>if kv.1=k then (kv.1,y) else kv) (xs.map (putAt k u)):=by
 induction r with
 | nil=>exact .nil
 | @cons p q ps qs h t ih=>
   rw [List.map_cons,List.map_cons]
   refine .cons ?_ ih
   obtain ⟨h1,h2,h3⟩:=h
   unfold putAt
   by_cases e:p.1=k
   ·rw [if_pos e,if_pos (h1.symm.trans e)]; exact ⟨h1,h2,ry⟩
   ·rw [if_neg e,if_neg (fun z=>e (h1.trans z))]; exact ⟨h1,h2,h3⟩
theorem KT.put {H:Hp} {aF:List (List Key×V)} {xs:List (List Key×Addr×Value)} (r:KT H aF xs) (k:List Key) {b:Addr} {y:V} {u:Value} (hb:de H b (k.map kV)) (ry:RelV y u):
  KT H (putK aF k y) (storedH xs k b u):=by
 have e:(aF.any fun kv=>decide (kv.1=k))=(atKey xs k).isSome:=by
  rw [oK,(r.val k).jg,Option.isSome_map]
 unfold putK storedH
 rw [e]
 by_cases q:(atKey xs k).isSome=true
 ·rw [if_pos q,if_pos q]; exact r.Jm k ry
 ·rw [if_neg q,if_neg q]; exact Paired.snoc r ⟨rfl,hb,ry⟩
theorem KT.keeps {H H':Hp} {aF:List (List Key×V)} {xs:List (List Key×Addr×Value)} (r:KT H aF xs) (ht:∀ b ys,de H b ys->de H' b ys):KT H' aF xs:=
 Paired.E4 r fun _ _ z=>⟨z.1,ht _ _ z.2.1,z.2.2⟩
section
variable {P:Program} {w:World} {H:Hp} {h:Heap} {a:Addr}
theorem HB {u:HO} (ok:j8 P w H h) (e:Rd H a u):bN P w H h a u:=e.ok ok
theorem oM {aF:List (Key×V)} (ok:j8 P w H h) (e:Rd H a (.dK aF)):aF.length<=sizeLine /\ (a == sysModules)=false /\ ∃ vs,KV aF vs /\ h.DictOf (cP P w) a vs:=
 show bN P w H h a (.dK aF) from HB ok e
theorem Mf {aF:List (Key×V)} (ok:j8 P w H h) (e:H a=some (.dK aF)):aF.length<=sizeLine /\ (a == sysModules)=false /\ ∃ vs,KV aF vs /\ h.DictOf (cP P w) a vs:=oM ok (.inl e)
theorem lh {ks:List Key} (ok:j8 P w H h) (e:de H a (ks.map kV)):(tupleKind (cP P w)).is h ks a:=by
 obtain ⟨_,its,r,o,h1,h2,n,h3⟩:=(show bN P w H h a (.tup (ks.map kV)) from Rd.ok e ok)
 exact ⟨o,its.toArray,n,h1,h2,h3,by simpa using rb r⟩
theorem oN {aF:List (List Key×V)} (ok:j8 P w H h) (e:Rd H a (.dT aF)):aF.length<=sizeLine /\ (a == sysModules)=false /\
  ∃ xs,KT H aF xs /\ h.DictOfH (tupleKind (cP P w)) a xs:=by
 obtain ⟨z,y,xs,r,o,es,ep,h1,h2,h3,h4,h5⟩:=(show bN P w H h a (.dT aF) from HB ok e)
 refine ⟨z,y,xs,r,o,es,ep,h1,h2,h3,h4,fun x hx=>?_,h5⟩
 have all:∀ {l:List (List Key×V)} {m:List (List Key×Addr×Value)},KT H l m->∀ x∈m,(tupleKind (cP P w)).is h x.1 x.2.1:=by
  intro l m q
  induction q with
  | nil=>intro x hx; exact nomatch hx
  | @cons p q ps qs hq t ih=>
    intro x hx
    rcases List.mem_cons.mp hx with e | hx
    ·subst e
     exact lh ok (by rw [<- hq.1]; exact hq.2.1)
    ·exact ih x hx
 exact all r x hx
theorem HC {aF:List (List Key×V)} (ok:j8 P w H h) (e:H a=some (.dT aF)):aF.length<=sizeLine /\ (a == sysModules)=false /\
  ∃ xs,KT H aF xs /\ h.DictOfH (tupleKind (cP P w)) a xs:=oN ok (.inl e)
end
def l5 (H:Hp) (a:Addr) (y:V) (r:Option V):Prop:=
 (∃ aF k,Rd H a (.dK aF) /\ y=kV k /\ r=lg aF k) \/ ∃ aF k b,Rd H a (.dT aF) /\ y=.ref b /\ de H b (k.map kV) /\ r=lg aF k
def Cb (H:Hp) (a:Addr) (y v:V) (H':Hp):Prop:=
 (∃ aF k,H a=some (.dK aF) /\ y=kV k /\ aF.length < sizeLine /\ H'=upd H a (.dK (putK aF k v))) \/
 ∃ aF k b,H a=some (.dT aF) /\ y=.ref b /\ de H b (k.map kV) /\ aF.length < sizeLine /\ H'=upd H a (.dT (putK aF k v))
theorem l5.t {H:Hp} {a b:Addr} {aF:List (List Key×V)} {k:List Key} (e:H a=some (.dT aF)) (eb:de H b (k.map kV)):l5 H a (.ref b) (lg aF k):=.inr ⟨aF,k,b,.inl e,rfl,eb,rfl⟩
theorem Cb.t {H:Hp} {a b:Addr} {aF:List (List Key×V)} {k:List Key} {v:V} (e:H a=some (.dT aF)) (eb:de H b (k.map kV)) (hl:aF.length < sizeLine):
  Cb H a (.ref b) v (upd H a (.dT (putK aF k v))):=.inr ⟨aF,k,b,e,rfl,eb,hl,rfl⟩
section
variable {X:Cx} {pins:List (Addr×Obj)} {σ:St} {H:Hp} {s:Shared} {a:Addr} {y v:V} {u r:Value} {o:Option V} {A:Around} {E:Value->Shared->Prop}
theorem Inv.O5 (I:Inv X pins σ H s):sysModules < s.heap.objs.size:=by
 have h:mainGlobals < s.heap.objs.size:=(I.mod.glob.keeps I.bk).lt
 exact Nat.lt_trans (by decide) h
theorem Ae {Q:Value->Shared->Prop} (hu:A.units + 1 < cLine) (I:Inv X pins σ H s) (g:l5 H a y (some v)) (ry:RelV y u) (h:∀ w' s',Inv X pins σ H s'->RelV v w'->Q w' s'):
  wpAny (model X.prog X.w) A (getItem (.ref a) u) Q E s:=by
 rcases g with ⟨aF,k,e,ey,l⟩ | ⟨aF,k,b,e,ey,eb,l⟩
 ·subst ey
  obtain ⟨z,hd,vs,rel,dd⟩:=oM I.be e
  obtain ⟨w',hw,B3⟩:=mI.some_of (v:=v) (o:=valueAt vs k) (by rw [l]; exact rel.val k)
  exact wpAny_getItem_of (ra ry) dd.mapOf hw (h w' _ (I.tok _) B3)
 ·subst ey
  cases (show u=Value.ref b from ry)
  obtain ⟨z,hd,xs,rel,dd⟩:=oN I.be e
  obtain ⟨w',hw,B3⟩:=mI.some_of (v:=v) (o:=(atKey xs k).map (·.2)) (by rw [l]; exact rel.val k)
  obtain ⟨p,hp,Ld⟩:=Option.map_eq_some_iff.mp hw
  refine wpAny_getItem_heap (tupleKind_room_in1 hu) (lh I.be eb) dd hp ?_
  rw [Ld]
  exact h w' _ (I.tok _) B3
theorem O6 {Q:Value->Shared->Prop} (hu:A.units + 1 < cLine) (I:Inv X pins σ H s) (g:l5 H a y o) (ry:RelV y u) (h:∀ s',Inv X pins σ H s'->Q (.bool o.isSome) s'):
  wpAny (model X.prog X.w) A (compareOp .In u (.ref a)) Q E s:=by
 rcases g with ⟨aF,k,e,ey,l⟩ | ⟨aF,k,b,e,ey,eb,l⟩
 ·subst ey
  obtain ⟨z,hd,vs,rel,dd⟩:=oM I.be e
  refine wpAny_in_of (ra ry) hd dd.mapOf ?_
  rw [<- (rel.val k).jg,<- l]
  exact h _ (I.tok _)
 ·subst ey
  cases (show u=Value.ref b from ry)
  obtain ⟨z,hd,xs,rel,dd⟩:=oN I.be e
  refine wpAny_in_heap (tupleKind_room_in1 hu) (lh I.be eb) hd dd ?_
  have q:=(rel.val k).jg
  rw [Option.isSome_map] at q
  rw [<- q,<- l]
  exact h _ (I.tok _)
theorem Fz {Q:Value->Shared->Prop} (hu:A.units + 1 < cLine) (I:Inv X pins σ H s) (g:l5 H a y o) (ry:RelV y u) (h:∀ s',Inv X pins σ H s'->Q (.bool (!o.isSome)) s'):
  wpAny (model X.prog X.w) A (compareOp .NotIn u (.ref a)) Q E s:=by
 rcases g with ⟨aF,k,e,ey,l⟩ | ⟨aF,k,b,e,ey,eb,l⟩
 ·subst ey
  obtain ⟨z,hd,vs,rel,dd⟩:=oM I.be e
  refine wpAny_notIn_of (ra ry) hd dd.mapOf ?_
  rw [<- (rel.val k).jg,<- l]
  exact h _ (I.tok _)
 ·subst ey
  cases (show u=Value.ref b from ry)
  obtain ⟨z,hd,xs,rel,dd⟩:=oN I.be e
  refine wpAny_notIn_heap (tupleKind_room_in1 hu) (lh I.be eb) hd dd ?_
  have q:=(rel.val k).jg
  rw [Option.isSome_map] at q
  rw [<- q,<- l]
  exact h _ (I.tok _)
theorem oq {h':Heap} {t':Nat} {ob:HO} (I:Inv X pins σ H s) (mu:LD (H a)) (hs:Heap.SameBut a s.heap h') (he:∃ q,h'.get? a=some q) (new:bN X.prog X.w (upd H a ob) h' a ob):
  Inv X pins σ (upd H a ob) { s with heap:=h',toks:=t' }:=
 I.write (x:=a) (e:=a) mu (.inl rfl) (fun b q hb z=>(hs.2 b hb).trans z) he new
theorem Jn {P:Program} {w:World} {H':Hp} {h':Heap} {aF:List (Key×V)} {vs:List (Key×Value)} (z:aF.length<=sizeLine) (hd:(a == sysModules)=false) (rel:KV aF vs) (dd:h'.DictOf (cP P w) a vs):
  bN P w H' h' a (.dK aF):=⟨z,hd,vs,rel,dd⟩
theorem Af {H':Hp} {Q:Unit->Shared->Prop} (hu:A.units + 1 < cLine) (I:Inv X pins σ H s) (g:Cb H a y v H') (ry:RelV y u) (rv:RelV v r) (h:∀ s',Inv X pins σ H' s'->Q () s'):
  wpAny (model X.prog X.w) A (setItem (.ref a) u r) Q E s:=by
 rcases g with ⟨aF,k,e,ey,l,eH⟩ | ⟨aF,k,b,e,ey,eb,l,eH⟩
 ·subst ey eH
  obtain ⟨z,hd,vs,rel,dd⟩:=Mf I.be e
  have hz:vs.length<=sizeLine:=by rw [<- rel.length]; exact z
  have hl:(putK aF k v).length<=sizeLine:=by have:=nK aF k v; omega
  refine wpAny_setItem_pairs (hsz:=hz) (ra ry) dd fun h' Le hs=>h _ ?_
  have he:∃ q,h'.get? a=some q:=let ⟨q,_,_,hq,_⟩:=Le; ⟨q,hq⟩
  exact oq I (by rw [e]; exact True.intro) hs he (Jn hl hd (rel.put k rv) Le)
 ·subst ey eH
  cases (show u=Value.ref b from ry)
  obtain ⟨z,hd,xs,rel,dd⟩:=HC I.be e
  have hz:xs.length<=sizeLine:=by rw [<- Paired.length rel]; exact z
  have hl:(putK aF k v).length<=sizeLine:=by have:=nK aF k v; omega
  refine wpAny_setItem_heap (hsz:=hz) (tupleKind_room_in1 hu) (lh I.be eb) dd fun h' Le hs=>h _ ?_
  obtain ⟨q,es,ep,hq,h2,h3,h4,_,h5⟩:=Le
  refine oq I (by rw [e]; exact True.intro) hs ⟨q,hq⟩ ⟨hl,hd,_,(rel.put k eb rv).keeps fun c ys ec=>?_,q,es,ep,hq,h2,h3,h4,h5⟩
  exact ec.dT e
end
section
variable {X:Cx} {pins:List (Addr×Obj)} {σ:St} {H:Hp} {s:Shared} {a:Addr} {aF:List (Key×V)} {k:Key} {u:Value} {A:Around} {E:Value->Shared->Prop}
end
def Jo (i:Expr):Prop:=∀ ov iv,subscripted i false ov iv=operate [ov,iv] (getItem ov iv)
theorem FA {prog:Program} {w:World} {A:Around} {E:Value->Shared->Prop} {s:Shared} {env:Env} {value slice:Expr} {pos:Pos} {T id:String} {Q:Value->Shared->Prop}
  (hl:typeLookup (.type T) "__getitem__"=pure (some (.builtin id))) (hs:Jo slice)
  (h:wpAny (model prog w) A (eval value env) (fun o bf=>wpAny (model prog w) A (eval slice env) (fun i jA=>jA.TypeIs o T /\ wpAny (model prog w) A (getItem o i) Q E jA) E bf) E s):
  wpAny (model prog w) A (eval (.Subscript value slice pos) env) Q E s:=by
 refine Subscript_ (wpAny_mono h (fun o bf lj=>wpAny_mono lj (fun i jA rZ=>?_) fun _ _ x=>x) fun _ _ x=>x)
 obtain ⟨hT,rZ⟩:=rZ
 unfold subscriptTail
 refine wpAny_bind ?_
 rw [getitemInPython_of_ne hT.not_modules]
 refine wpAny_bind (wpAny_specialOf hT hl ?_)
 have fin:wpAny (model prog w) A (subscripted slice false o i) (fun r mW=>wpAny (model prog w) A (letTemporaryGo value o r >>= fun _=>pure r) Q E mW) E jA:=by
  rw [hs o i]
  exact wpAny_operating (wpAny_mono rZ (fun r mW Jp=>wpAny_bind (wpAny_letTemporaryGo (wpAny_pure Jp))) fun _ _ x=>x)
 first
  | exact wpAny_pure (wpAny_bind fin)
  | exact wpAny_bind (wpAny_pure (wpAny_bind fin))
  | exact wpAny_bind fin
theorem uM {X:Cx} {pins:List (Addr×Obj)} {σ:St} {H:Hp} {s:Shared} {a:Addr} {y:V} {o:Option V} (I:Inv X pins σ H s) (g:l5 H a y o):s.TypeIs (.ref a) "dict":=by
 rcases g with ⟨aF,k,e,_,_⟩ | ⟨aF,k,b,e,_,_,_⟩
 ·obtain ⟨_,_,vs,_,dd⟩:=oM I.be e
  exact dd.typeIs
 ·obtain ⟨_,_,xs,_,dd⟩:=oN I.be e
  exact dd.typeIs
def Mg (td ty:TE):TE:=fun σ H Q=>td σ H fun x H1=>ty σ H1 fun y H2=>∃ a v,x=.ref a /\ l5 H2 a y (some v) /\ Q v H2
def O7 (ty td:TE):TE:=fun σ H Q=>ty σ H fun y H1=>td σ H1 fun x H2=>∃ a o,x=.ref a /\ l5 H2 a y o /\ Q (.bl o.isSome) H2
def FC (ty td:TE):TE:=fun σ H Q=>ty σ H fun y H1=>td σ H1 fun x H2=>∃ a o,x=.ref a /\ l5 H2 a y o /\ Q (.bl (!o.isSome)) H2
def HE (td ty tv:TE):TS:=fun D σ H=>tv σ H fun v H1=>td σ H1 fun x H2=>ty σ H2 fun y H3=>∃ a H4,x=.ref a /\ Cb H3 a y v H4 /\ D.nx σ H4
section
variable {X:Cx} {o i e value:Expr} {pos pos' ik:Pos} {td ty tv:TE}
theorem FD (hu:X.A.units + 1 < cLine) (ho:PE X o td) (hi:PE X i ty) (hs:Jo i):PE X (.Subscript o i pos) (Mg td ty):=by
 intro pins s σ H Q I h
 refine FA PySem.F.slot_dict_getitem.lookup hs (cO (ho pins s σ H _ I h) fun u s1 ⟨x,H1,I1,rx,q1⟩=>cO (hi pins s1 σ H1 _ I1 q1) fun iv s2 ⟨y,H2,I2,ry,a,v,ex,g,q2⟩=>?_)
 subst ex
 obtain rfl:u=Value.ref a:=rx
 exact ⟨uM I2 g,Ae hu I2 g ry fun w' s3 I3 B3=>⟨v,H2,I3,B3,q2⟩⟩
theorem Jq (hu:X.A.units + 1 < cLine) (hi:PE X i ty) (ho:PE X o td):PC X .In i o (O7 ty td):=by
 intro pins s σ H Q I h
 refine cO (hi pins s σ H _ I h) fun iv s1 ⟨y,H1,I1,ry,q1⟩=>cO (ho pins s1 σ H1 _ I1 q1) fun u s2 ⟨x,H2,I2,rx,a,ov,ex,g,q2⟩=>?_
 subst ex
 obtain rfl:u=Value.ref a:=rx
 exact O6 hu I2 g ry fun s3 I3=>⟨.bl ov.isSome,H2,I3,rfl,q2⟩
theorem Ag (hu:X.A.units + 1 < cLine) (hi:PE X i ty) (ho:PE X o td):PC X .NotIn i o (FC ty td):=by
 intro pins s σ H Q I h
 refine cO (hi pins s σ H _ I h) fun iv s1 ⟨y,H1,I1,ry,q1⟩=>cO (ho pins s1 σ H1 _ I1 q1) fun u s2 ⟨x,H2,I2,rx,a,ov,ex,g,q2⟩=>?_
 subst ex
 obtain rfl:u=Value.ref a:=rx
 exact Fz hu I2 g ry fun s3 I3=>⟨.bl (!ov.isSome),H2,I3,rfl,q2⟩
theorem ou (hu:X.A.units + 1 < cLine) (ho:PE X o td) (hi:PE X i ty) (hv:PE X value tv) (hs:swapsWith value (some (.Subscript o i pos')) pos.line X.env=pure false):
  PS X (.Assign [.Subscript o i pos'] value pos) (HE td ty tv):=by
 intro pins s σ H D I h
 refine wpAny_Assign_Subscript (cO (hv pins s σ H _ I h) fun r s1 ⟨v,H1,I1,rv,q1⟩=>cO (ho pins s1 σ H1 _ I1 q1) fun u s2 ⟨x,H2,I2,rx,q2⟩=>cO (hi pins s2 σ H2 _ I2 q2) fun iv s3 ⟨y,H3,I3,ry,a,H4,ex,g,q3⟩=>?_) hs
 subst ex
 obtain rfl:u=Value.ref a:=rx
 exact Af hu I3 g ry rv fun s4 I4=>⟨σ,H4,I4,q3⟩
end
theorem uN {P:Program} {w:World} {H:Hp} (h:Heap) (hb:sysModules < h.objs.size):bN P w H (h.push { cls:=.type "dict",data:=.dict #[] }) h.objs.size (.dT []):=
 ⟨Nat.zero_le _,beq_eq_false_iff_ne.mpr (Ne.symm (Nat.ne_of_lt hb)),[],.nil,_,#[],0,Heap.get?_push_size _ rfl,⟨rfl,rfl,rfl⟩,rfl,rfl,List.nodup_nil⟩
def Jr:TE:=fun _ H Q=>∀ p,H p=none->Q (.ref p) (upd H p (.dT []))
section
variable {X:Cx} {pos:Pos}
theorem Cc:PE X (.Dict [] [] pos) Jr:=fun pins s σ H Q I h=>
 wpAny_Dict_empty ⟨.ref s.heap.objs.size,_,I.laid (a:=s.heap.objs.size) (o:=.dT []) (t':=s.toks) (fun _ _ q=>Heap.get?_push_of_some _ q) (Nat.le_refl _) (uN s.heap I.O5),rfl,h _ (I.be.fresh (Nat.le_refl _))⟩
end
def xg:List (TE×TE)->St->Hp->(List (V×V)->Hp->Prop)->Prop
 | [],_,H,Q=>Q [] H
 | (tk,tv) :: r,σ,H,Q=>tk σ H fun x H1=>tv σ H1 fun y H2=>xg r σ H2 fun ps H3=>Q ((x,y) :: ps) H3
abbrev VV:List (V×V)->List (Value×Value)->Prop:=Paired fun p q=>RelV p.1 q.1 /\ RelV p.2 q.2
def NZ (X:Cx) (pos:Pos) (keys:List (Option Expr)) (values:List Expr) (N0:List (TE×TE)):Prop:=
 ∀ (pins:List (Addr×Obj)) (s:Shared) (σ:St) (H:Hp) (Q:List (V×V)->Hp->Prop),Inv X pins σ H s->xg N0 σ H Q->
   wpAny (model X.prog X.w) X.A (evalPairs (pairTrees keys values X.env pos)) (fun vs s'=>∃ ps H',Inv X pins σ H' s' /\ VV ps vs /\ Q ps H') X.xe s
theorem FE {X:Cx} {pos:Pos}:NZ X pos [] [] []:=fun pins s σ H Q I h=>pairTrees_nil_walk ⟨[],H,I,.nil,h⟩
theorem Cd {X:Cx} {pos:Pos} {k v:Expr} {ks:List (Option Expr)} {vs:List Expr} {tk tv:TE} {N0:List (TE×TE)} (hk:PE X k tk) (hv:PE X v tv) (hr:NZ X pos ks vs N0):
  NZ X pos (some k :: ks) (v :: vs) ((tk,tv) :: N0):=fun pins s σ H Q I h=>
 pairTrees_cons_walk (cO (hk pins s σ H _ I h) fun u s1 ⟨x,H1,I1,rx,q1⟩=>cO (hv pins s1 σ H1 _ I1 q1) fun w2 s2 ⟨y,H2,I2,ry,q2⟩=>
  cO (hr pins s2 σ H2 _ I2 q2) fun ws s3 ⟨ps,H3,I3,rel,q3⟩=>⟨(x,y) :: ps,H3,I3,.cons ⟨rx,ry⟩ rel,q3⟩)
structure M2 (X:Cx) (o:Expr) (m:Str) (apos:Pos) (e f:Expr) (dO:Pos):Prop where
 base:attributeBase o m X.env (eval o X.env)=eval o X.env
 V4:((backTo dO (starEach [e,f] X.env)).all (fun x=> !x.1) && (backToKw dO (keywordEach [] X.env)).all (fun x=>x.1.isSome)
  && decide (([e,f]:List Expr).length + ([]:List Keyword).length + (if ([]:List Keyword).isEmpty then 0 else 1) < 30))=true
 line:(apos.endLine == dO.line)=true
 trees:backTo dO (starEach [e,f] X.env)=[(false,eval e X.env),(false,eval f X.env)]
def HF (H:Hp) (a:Addr):Prop:=(∃ aF,Rd H a (.dK aF)) \/ ∃ aF,Rd H a (.dT aF)
theorem Js {X:Cx} {pins:List (Addr×Obj)} {σ:St} {H:Hp} {s:Shared} {a:Addr} (I:Inv X pins σ H s) (d:HF H a):
  s.TypeIs (.ref a) "dict" /\ (∀ b,Value.ref a=.ref b->∃ ob,s.heap.get? b=some ob /\ ob.dict=none) /\ (a == sysModules)=false:=by
 rcases d with ⟨aF,e⟩ | ⟨aF,e⟩
 ·obtain ⟨_,hd,vs,_,dd⟩:=oM I.be e
  refine ⟨dd.typeIs,fun b q=>?_,hd⟩
  cases q
  obtain ⟨ob,_,_,h1,h2,_⟩:=dd
  exact ⟨ob,h1,h2.2.1⟩
 ·obtain ⟨_,hd,xs,_,dd⟩:=oN I.be e
  refine ⟨dd.typeIs,fun b q=>?_,hd⟩
  cases q
  obtain ⟨ob,_,_,h1,h2,_⟩:=dd
  exact ⟨ob,h1,h2.2.1⟩
section
variable {X:Cx} {pins:List (Addr×Obj)} {σ:St} {H:Hp} {s:Shared} {a:Addr} {y d:V} {u r:Value} {o:Option V} {A:Around} {E:Value->Shared->Prop}
theorem Jt {Q:Value->Shared->Prop} (hu:A.units + 1 < cLine) (I:Inv X pins σ H s) (g:l5 H a y o) (ry:RelV y u) (rd:RelV d r) (h:∀ w' s',Inv X pins σ H s'->RelV (o.getD d) w'->Q w' s'):
  wpAny (model X.prog X.w) A (call (.builtin "dict.get") [.ref a,u,r]) Q E s:=by
 rcases g with ⟨aF,k,e,ey,l⟩ | ⟨aF,k,b,e,ey,eb,l⟩
 ·subst ey
  obtain ⟨z,hd,vs,rel,dd⟩:=oM I.be e
  refine call_meetsIn PySem.F.slot_dict_get dd.typeIs PySem.F.entry_dict_get (PySem.F.args_dict_get_3 _ _ _) (meets_dict_get_default (cP X.prog X.w) a (ra ry) hd r) ⟨_,dd.mapOf,h _ _ (I.tok _) ?_⟩
  rw [l]
  exact (rel.val k).getD rd
 ·subst ey
  cases (show u=Value.ref b from ry)
  obtain ⟨z,hd,xs,rel,dd⟩:=oN I.be e
  refine call_meetsIn PySem.F.slot_dict_get dd.typeIs PySem.F.entry_dict_get (PySem.F.args_dict_get_3 _ _ _) (meetsH_dict_get_default (tupleKind (cP X.prog X.w)) a b hd r) ⟨tupleKind_room_in1 hu,k,xs,lh I.be eb,dd,h _ _ (I.tok _) ?_⟩
  rw [l]
  exact (rel.val k).getD rd
end
def Ju (td ty tx:TE):TE:=fun σ H Q=>td σ H fun x H1=>∃ a,x=.ref a /\ HF H1 a /\ ty σ H1 fun y H2=>tx σ H2 fun z H3=>∃ o,l5 H3 a y o /\ Q (o.getD z) H3
section
variable {X:Cx} {o e f:Expr} {apos dO:Pos} {td ty tx:TE}
theorem Ce (hu:X.A.units + 1 < cLine) (ho:PE X o td) (he:PE X e ty) (hf:PE X f tx) (m:M2 X o "get" apos e f dO):PE X (.Call (.Attribute o "get" apos) [e,f] [] dO) (Ju td ty tx):=by
 intro pins s σ H Q I h
 refine wpAny_Call_method m.base m.V4 m.line PySem.F.plainAttrs_dict PySem.F.slot_dict_get PySem.F.type_dict_get (cO (ho pins s σ H _ I h) fun u s1 ⟨x,H1,I1,rx,a,ex,d,q1⟩=>?_)
 subst ex
 obtain rfl:u=Value.ref a:=rx
 obtain ⟨t1,t2,_⟩:=Js I1 d
 refine ⟨t1,t2,?_⟩
 rw [m.trees]
 refine Calls.callWith_builtin rfl (Calls.evalArgs_plain (Calls.spliced_cons (cO (he pins s1 σ H1 _ I1 q1) fun iv s2 ⟨y,H2,I2,ry,q2⟩=>
  Calls.spliced_cons (cO (hf pins s2 σ H2 _ I2 q2) fun fv s3 ⟨z,H3,I3,rz,ov,g,q3⟩=>Calls.spliced_nil ?_))))
 exact Jt hu I3 g ry rz fun w' s4 I4 B3=>⟨_,H3,I4,B3,q3⟩
end
end L2
set_option maxHeartbeats 4000000
namespace L2
open PySem PySem.Spec PyProof.Rows
section
variable {X:Cx}
theorem fX:gT X (binaryOp .Mult) (rI IntMulOk fun i j=>.int (i * j)):=LZ fun _ _ _ _ _ _ _ hc q=>mul_int q hc
def Cf (i j:Int):Prop:=j≠0 /\ Builtin.divisionGoesByPylong i j=false
theorem gu:gT X (binaryOp .FloorDiv) (rI Cf fun i j=>.int (i.fdiv j)):=LZ fun _ _ _ _ _ _ _ hc q=>floordiv_int hc.1 q (.inl hc.2)
theorem Ah {i j:Int} (h:Builtin.Int.intBits j<=9000):Builtin.divisionGoesByPylong i j=false:=by
 refine PyProof.noPylong_of_log2 ?_
 unfold Builtin.Int.intBits at h
 by_cases hj:j=0
 ·subst hj; decide +kernel
 ·rw [if_neg (by simpa using hj)] at h
  omega
theorem mul_right {i j:Int} (h1: -(2 ^ 64) < j) (h2:j < 2 ^ 64):IntMulOk i j:=.of_right (intBits_le_64 h1 h2)
def UJ (K:PySem.W.Frag) (H:Hp) (x:V) (t:String):Prop:=
 mR K H x (.type t) \/ (∃ a xs,x=.ref a /\ jB K H a xs /\ t="tuple") \/ (∃ a xs,x=.ref a /\ gN K H a xs /\ t="list")
def O8 (K:PySem.W.Frag):List V->Hp->VK->Prop:=fun xs H Q=>∃ x n t b,xs=[x,.ty n] /\ UJ K H x t /\ PySem.W.kitOne K (.type t) (.type n)=some b /\ Q (.bl b) H
theorem Cg:ee X (.builtin "isinstance") (O8 X.K):=by
 intro pins s σ H xs us Q I r h
 obtain ⟨x,n,t,b,rfl,ty,e,q⟩:=h
 obtain ⟨u1,u2,rfl,r1,r2⟩:∃ u1 u2,us=[u1,u2] /\ RelV x u1 /\ RelV (.ty n) u2:=by
  cases r with
  | cons p q=>cases q with
    | cons p' q'=>cases q'; exact ⟨_,_,rfl,p,p'⟩
 cases (show u2=Value.type n from r2)
 have fin:∀ tk,EP X pins σ Q (.bool b) { s with toks:=tk }:=fun tk=>⟨.bl b,H,I.tok _,rfl,q⟩
 rcases ty with ty | ⟨a,ys,rfl,hq,rfl⟩ | ⟨a,ys,rfl,hq,rfl⟩
 ·exact Aa I r1 ty e fin
 ·cases (show u1=Value.ref a from r1)
  obtain ⟨its,_,p,_⟩:=I.tuple hq
  obtain ⟨o,h1,h2,_⟩:=p
  exact PySem.W.kia_one PySem.W.kitx_tuple I.kU ⟨o,h1,h2⟩ e (fun z=>nomatch z) fin
 ·cases (show u1=Value.ref a from r1)
  obtain ⟨its,_,p,_⟩:=I.list hq
  obtain ⟨o,n,h1,h2,_⟩:=p
  exact PySem.W.kia_one PySem.W.kitx_list I.kU ⟨o,h1,h2⟩ e (fun z=>nomatch z) fin
theorem Ci {K:PySem.W.Frag} {t:String}:PySem.W.kitOne K (.type t) (.type t)=some true:=by
 unfold PySem.W.kitOne
 rw [if_pos (by simp)]
def Dn (P:Program) (w:World) (K:PySem.W.Frag) (mg:Str->Option Value) (base:Heap) (k:Nat) (x:Str) (ps:List Str) (sp:Sp):Prop:=
 ∃ f fd,lb P w K mg base mF k f fd ps sp /\ mg x=some (.ref f) /\ PySem.W.keepIn K (.ref f)=true /\ Binds K fd ps []
theorem Cj {k kk:Nat} {x:Str} {ps:List Str} {sp:Sp} {e:Expr} {es:List Expr} {t:TA} {p pos:Pos} (D:Dn X.prog X.w X.K X.mg X.base k x ps sp) (hr:cy kk X.A) (hk:k<=kk) (ha:PA X (e :: es) t) (hg:Gl X x:=by rfl)
  (mT:(x == ("__debug__":Str))=false:=by decide) (he:starEach (e :: es) X.env=(false,eval e X.env) :: starEach es X.env:=by rfl) (iH:(backTo pos (starEach es X.env)).any (·.1)=false:=by rfl):
  PE X (.Call (.Name x p) (e :: es) [] pos) (uH sp [] E0 t):=by
 obtain ⟨f,fd,F,m,kp,b⟩:=D
 exact y4 F (hr.mono hk) hg m kp b .nil HA ha mT he iH
structure Bs (mg:Str->Option Value):Prop where
 len:mg "len"=none
 range:mg "range"=none
 isinstance:mg "isinstance"=none
 max:mg "max"=none
 min:mg "min"=none
 int:mg "int"=none
 bool:mg "bool"=none
 tuple:mg "tuple"=none
 list:mg "list"=none
 abs:mg "abs"=none
 str:mg "str"=none
 sum:mg "sum"=none
 sorted:mg "sorted"=none
 reversed:mg "reversed"=none
 enumerate:mg "enumerate"=none
 set:mg "set"=none
 all:mg "all"=none
 zip:mg "zip"=none
 any:mg "any"=none
def Df (K:PySem.W.Frag) (mg:Str->Option Value) (x:Str) (st:Stmt) (ps:List Str):Prop:=∃ f fd,j6 K x x st f fd /\ mg x=some (.ref f) /\ Binds K fd ps []
theorem Df.ok {P:Program} {w:World} {K:PySem.W.Frag} {mg:Str->Option Value} {base:Heap} {x:Str} {st:Stmt} {N ps:List Str} {k:Nat} {sp:Sp} (F:Df K mg x st ps) (S:aN N ps (ai st)) (len:∀ vs H Q E,sp vs H Q E->vs.length=ps.length)
  (gq:∀ (f:Addr) (bZ:Value) (A:Around) (outer:List Env) (s:Shared) (H:Hp) (vs:List V) (Q:VK) (E:XK),cy k (A.deeper (envOfC x (ai st) s.heap.objs.size f bZ))->sp vs H Q E->
   ∃ t,jy (gO mF P w K mg base N x (ai st) f bZ A outer s H E).BG (cz st) t /\ t { nx:=fun _ H'=>Q .gM H',rt:=Q } (start N vs) H):Dn P w K mg base (k + 1) x ps sp:=by
 obtain ⟨f,fd,F,m,b⟩:=F
 exact ⟨f,fd,F.ok S len (gq f),m,F.kp,b⟩
def Cn (mg:Str->Option Value) (x:Str) (v:V):Prop:=∃ u,mg x=some u /\ RelV v u
theorem l6 {x:Str} {v:V} {pos:Pos} (c:Cn X.mg x v) (hg:Gl X x:=by rfl) (hd:(x == ("__debug__":Str))=false:=by decide):PE X (.Name x pos) (tC v):=by
 obtain ⟨u,m,r⟩:=c
 exact E8 hg m r hd
end
theorem bG {H:Hp} {p:Addr} (h:H p=none) (o:HO):aA H (upd H p o):=fun b u q=>by rw [aB (aP q h)]; exact q
theorem small {n:Nat} (h:n<=100000):n<=sizeLine:=Nat.le_trans h (by decide)
theorem Ck {n:Nat} (h:n<=100000):n < sizeLine:=Nat.lt_of_le_of_lt h (by decide)
section
variable {X:Cx}
end
theorem aA.upd {H H':Hp} {l:Addr} (s:aA H H') (h:H l=none) (o:HO):aA H (upd H' l o):=fun b u q=>by rw [aB (aP q h)]; exact s b u q
theorem Cm:bootBuiltins "int"=some (.type "int"):=by decide +kernel
theorem FG:bootBuiltins "bool"=some (.type "bool"):=by decide +kernel
theorem il:bootBuiltins "tuple"=some (.type "tuple"):=by decide +kernel
theorem iO:bootBuiltins "list"=some (.type "list"):=by decide +kernel
theorem cM:bootBuiltins "len"=some (.builtin "len"):=by decide +kernel
theorem Jv:bootBuiltins "abs"=some (.builtin "abs"):=by decide +kernel
theorem Co:bootBuiltins "max"=some (.builtin "max"):=by decide +kernel
theorem kX:bootBuiltins "isinstance"=some (.builtin "isinstance"):=by decide +kernel
section
variable {X:Cx}
end
section
variable {X:Cx}
end
section
variable {X:Cx}
theorem ll {scope:Scope} {env:Env} (h:∀ y∈scope.names,y.2=.free->∃ c,env.cells.lookup y.1=some c):
  ∃ cl:List (Str×Addr),closureFor scope env=pure cl /\ (∀ n c,cl.lookup n=some c->env.cells.lookup n=some c) /\ ∀ n,(n,NameKind.free)∈scope.names->∃ c,cl.lookup n=some c:=by
 have go:∀ (l:List (Str×NameKind)) (cs:List (Str×Addr)),(∀ y∈l,y.2=.free->∃ c,env.cells.lookup y.1=some c)->(∀ n c,cs.lookup n=some c->env.cells.lookup n=some c)->
   ∃ cl:List (Str×Addr),(forIn l cs fun x r=>(match x with | (name,kind)=>if (kind == NameKind.free)=true then (do let a <- cellOf env name; pure (ForInStep.yield ((name,a) :: r))) else pure (ForInStep.yield r):Sem (ForInStep (List (Str×Addr)))))=(pure cl:Sem _) /\
     (∀ n c,cl.lookup n=some c->env.cells.lookup n=some c) /\ (∀ n,(n,NameKind.free)∈l->∃ c,cl.lookup n=some c) /\ ∀ n c,cs.lookup n=some c->∃ c',cl.lookup n=some c':=by
  intro l
  induction l with
  | nil=>intro cs _ hc; exact ⟨cs,rfl,hc,fun n hn=>by simp at hn,fun n c e=>⟨c,e⟩⟩
  | cons y r ih=>
    intro cs hl hc
    obtain ⟨name,kind⟩:=y
    by_cases hk:kind=.free
    ·subst hk
     obtain ⟨c,e⟩:=hl (name,.free) List.mem_cons_self rfl
     have La:∀ n d,((name,c) :: cs).lookup n=some d->env.cells.lookup n=some d:=by
      intro n d q
      rw [List.lookup_cons] at q
      cases hb:n == name with
      | true=>rw [hb] at q; cases q; rw [eq_of_beq hb]; exact e
      | false=>rw [hb] at q; exact hc n d q
     obtain ⟨cl,h1,h2,h3,h4⟩:=ih ((name,c) :: cs) (fun y hy=>hl y (List.mem_cons_of_mem _ hy)) La
     refine ⟨cl,?_,h2,fun n hn=>?_,fun n d q=>?_⟩
     ·rw [List.forIn_cons]
      have ec:cellOf env name=pure c:=by unfold cellOf; rw [e]
      simp only [beq_self_eq_true,if_true,ec,pure_bind]
      exact h1
     ·rcases List.mem_cons.mp hn with z | z
      ·cases z
       exact h4 name c (by rw [List.lookup_cons]; simp)
      ·exact h3 n z
     ·by_cases hb:n == name
      ·exact h4 n c (by rw [List.lookup_cons,hb])
      ·exact h4 n d (by rw [List.lookup_cons]; simp only [hb]; exact q)
    ·obtain ⟨cl,h1,h2,h3,h4⟩:=ih cs (fun y hy=>hl y (List.mem_cons_of_mem _ hy)) hc
     refine ⟨cl,?_,h2,fun n hn=>?_,h4⟩
     ·rw [List.forIn_cons]
      have eb:(kind == NameKind.free)=false:=by simpa using hk
      simp only [eb,Bool.false_eq_true,if_false,pure_bind]
      exact h1
     ·rcases List.mem_cons.mp hn with z | z
      ·cases z; exact absurd rfl hk
      ·exact h3 n z
 obtain ⟨cl,h1,h2,h3,_⟩:=go scope.names [] h (fun n c e=>by simp at e)
 refine ⟨cl,?_,h2,h3⟩
 simp only [closureFor]
 rw [h1]
 rfl
def bp (X:Cx) (scope:Scope) (N':List Str) (cl:List (Str×Addr)) (C:Addr) (s2:Shared) (H2:Hp) (fp:List Addr) (pins:List (Addr×Obj)):Cx:=
 { X with N:=N',fm:=s2,z4:=H2,env:=compEnvC scope cl C X.env,outer:=X.stack,stack:=X.stack,ex:=fp,fn:=fun _=>false,pn:=X.pn ++ pins,xe:=fun _ _=>False }
def ql (ix:List Nat) (σ:St):St:=ix.map fun j=>(σ[j]?).join
section
variable {scope:Scope} {x:Str} {ix:List Nat} {N':List Str} {cl:List (Str×Addr)} {C:Addr} {s2 s3:Shared} {H2:Hp} {fp:List Addr} {pins:List (Addr×Obj)} {σ:St}
theorem Cp {j:Nat} {v:V} (h:(ql ix σ)[j]?=some (some v)):∃ i,ix[j]?=some i /\ σ[i]?=some (some v):=by
 unfold ql at h
 rw [List.getElem?_map] at h
 cases e:ix[j]? with
 | none=>rw [e] at h; cases h
 | some i=>
   rw [e] at h
   have h':(σ[i]?).join=some v:=Option.some.inj h
   refine ⟨i,rfl,?_⟩
   cases q:σ[i]? with
   | none=>rw [q] at h'; cases h'
   | some w=>rw [q] at h'; rw [show w=some v from h']
abbrev zb (its:List Value) (n:Nat):Obj:={ cls:=.type "list",data:=.seq its.toArray n }
theorem Inv.Mh {X:Cx} {pins:List (Addr×Obj)} {σ:St} {H:Hp} {s:Shared} {D:Addr} {ys:List V} {its:List Value} {n:Nat} (I:Inv X pins σ H s) (hD:H D=none) (hs:X.fm.heap.objs.size<=D) (hl:D≠X.env.locals) (hc:∀ x c,X.env.cells.lookup x=some c->c≠D)
  (hp:∀ p∈X.pn ++ pins,p.1≠D) (e:s.heap.get? D=some (zb its n)) (r:a4 ys its) (hz:ys.length<=sizeLine):Inv X pins σ (upd H D (.lst ys)) s:=by
 have h:=I.step (H':=upd H D (.lst ys)) (h':=s.heap) (g':=s.gens) (t':=s.toks) (d':=s.drawn) (ch:=[D]) (fun b hb=>by
   have e:b=D:=by simpa using hb
   subst e
   exact ⟨.inr hs,hl,hc,hp⟩)
  (fun b o _ _ _ q _=>q) (fun b o _ _ _ q _=>⟨o.slots,q⟩) (fun b o hb _ q=>by rw [aB (by simpa using hb)]; exact q) (fun b o _ q=>⟨o,q⟩)
  (fun b xs q=>by rw [aB (aP q hD)]; exact q) (fun b o u q=>by rw [aB (aP q hD)]; exact q) (fun b ps q=>⟨#[],by rw [aB (aP q hD),Array.append_empty]; exact q⟩) (fun m hm=>hm) (fun b u q=>?_) I.bare
 ·exact h
 ·by_cases hb:b=D
  ·subst hb
   rw [aZ] at q; cases q
   exact ⟨hz,its,n,r,e⟩
  ·rw [aB hb] at q
   exact (I.be b u q).mJ (fun _ _ _ z=>z) (fun c z=>by rw [aB (aP z hD)]; exact z) fun c xs z=>z.new hD
theorem Ai (I0:Inv X pins σ H2 s2) (hC:s2.heap.objs.size<=C) {D:Addr} (hD:s2.heap.objs.size<=D) (hf:∀ b∈fp,n8 X pins H2 b) {cb:St} {H:Hp} {s1:Shared} {ys:List V} {its:List Value} {n:Nat} {more:List (Addr×Obj)}
  (I:Inv (bp X scope N' cl C s2 H2 fp pins) ((D,zb its n) :: more) cb H s1) (r:a4 ys its) (hz:ys.length<=sizeLine) {h':Heap} (hs:Heap.SameBut C s1.heap h') (HG:D≠C):
  Inv X pins σ (upd H D (.lst ys)) { s1 with heap:=h' }:=by
 have nC:∀ b o,s2.heap.get? b=some o->b≠C:=fun b o e=>Nat.ne_of_lt (Nat.lt_of_lt_of_le (Heap.lt_size e) hC)
 have B:Un (j5 X.stack) fp H2 H s2.heap s1.heap:=I.base
 have fC:H C=none:=I.free
 have pD:=I.pin (D,zb its n) (List.mem_append_right _ List.mem_cons_self)
 have u:Un (j5 X.stack) fp H2 H s2.heap h':=⟨fun b o e n hb hx=>(hs.2 b (nC b o e)).trans (B.keep b o e n hb hx),fun b o e n hb hx=>by
   obtain ⟨sl,q⟩:=B.slot b o e n hb hx
   exact ⟨sl,(hs.2 b (nC b o e)).trans q⟩,B.free,fun b o e hx=>by
   obtain ⟨o',q⟩:=B.there b o e hx
   exact ⟨o',(hs.2 b (nC b o e)).trans q⟩,B.mK,B.lR,B.mM⟩
 have be:j8 X.prog X.w H h':=fun b o e=>(I.be b o e).mJ (fun c v hc q=>(hs.2 c (by
   rintro rfl
   rcases hc with z | z
   ·subst z; rw [fC] at e; cases e
   ·rw [fC] at z; cases z)).trans q) (fun _ q=>q) fun _ _ q=>q
 have I1:Inv X pins σ H { s1 with heap:=h' }:=I0.BD (s':={ s1 with heap:=h' }) (ch:=fp) I.os u be I.bare fun b hb=>⟨(hf b hb).2.2.2.1,(hf b hb).2.1,(hf b hb).2.2.2.2.1,(hf b hb).2.2.2.2.2⟩
 refine I1.Mh (its:=its) (n:=n) pD.2.1 (Nat.le_trans I0.sz hD) (Nat.ne_of_gt (Nat.lt_of_lt_of_le I0.lt hD)) (fun a c e z=>?_) (fun p hp z=>?_) ((hs.2 D HG).trans pD.1) r hz
 ·obtain ⟨v,q⟩:=I0.cell a c e
  exact absurd (Nat.lt_of_lt_of_le q.lt (by rw [z]; exact hD)) (Nat.lt_irrefl _)
 ·exact absurd (Nat.lt_of_lt_of_le (Heap.lt_size (I0.pin p hp).1) (by rw [z]; exact hD)) (Nat.lt_irrefl _)
end
section
variable {scope:Scope} {x:Str} {ix:List Nat} {N':List Str} {elt iter:Expr} {px pos:Pos} {wi:TI} {te:TE}
end
def FH (sc scope:Scope):List (Str×NameKind):=scope.names.map fun (n,k)=>if (k == .free && sc.kind == .function && sc.names.lookup n == some .cell) then (n,.cell) else (n,k)
theorem lookup_mem {n:Str} {k:NameKind}:∀ {l:List (Str×NameKind)},l.lookup n=some k->(n,k)∈l
 | [],h=>by simp at h
 | (a,b) :: r,h=>by
   rw [List.lookup_cons] at h
   cases e:n == a with
   | true=>rw [e] at h; cases h; rw [eq_of_beq e]; exact List.mem_cons_self
   | false=>rw [e] at h; exact List.mem_cons_of_mem _ (lookup_mem h)
section
variable {scope:Scope} {x:Str} {elt iter:Expr} {px pos:Pos} {wi:TI} {te:TE}
end
end
section
variable {X:Cx} {pins:List (Addr×Obj)} {σ:St} {H:Hp} {s:Shared}
end
section
variable {X:Cx}
end
abbrev FI:=Int×Int
def dF (q:FI):PyData:=.tuple [.int q.1,.int q.2]
def dP (l:List FI):PyData:=.list (l.map dF)
theorem Jw (a b:FI):PyData.eqv (dF a) (dF b)=decide (a=b):=by
 obtain ⟨a1,a2⟩:=a
 obtain ⟨b1,b2⟩:=b
 simp only [dF,PyData.eqv,PyData.eqvAll,Bool.and_true,Prod.mk.injEq]
 rw [Bool.eq_iff_iff]; simp
theorem rf:∀ l m:List FI,PyData.eqvAll (l.map dF) (m.map dF)=decide (l=m)
 | [],[]=>rfl
 | [],_ :: _=>rfl
 | _ :: _,[]=>rfl
 | a :: l,b :: m=>by
   rw [List.map_cons,List.map_cons,PyData.eqvAll,Jw,rf l m,Bool.eq_iff_iff]
   simp
theorem Jx (l m:List FI):PyData.eqv (dP l) (dP m)=decide (l=m):=by
 unfold dP; rw [PyData.eqv]; exact rf l m
theorem Jy (q:FI):(dF q).canLay0=true /\ (dF q).depth<=3:=⟨by simp [dF,PyData.canLay0,PyData.canLayAll0],by simp [dF,PyData.depth,PyData.depthAll]⟩
theorem r6 {α:Type} {f:α->PyData} {n:Nat} (h:∀ a,(f a).canLay0=true /\ (f a).depth<=n):∀ l:List α,PyData.canLayAll0 (l.map f)=true /\ PyData.depthAll (l.map f)<=n
 | []=>⟨rfl,Nat.zero_le _⟩
 | a :: l=>by
   obtain ⟨h1,h2⟩:=h a
   obtain ⟨h3,h4⟩:=r6 h l
   refine ⟨by rw [List.map_cons,PyData.canLayAll0,h1,h3]; rfl,?_⟩
   rw [List.map_cons,PyData.depthAll]
   exact Nat.max_le.mpr ⟨h2,h4⟩
theorem Jz (l:List FI):(dP l).canLay0=true /\ (dP l).depth<=4:=by
 obtain ⟨h1,h2⟩:=r6 Jy l
 exact ⟨by unfold dP; rw [PyData.canLay0]; exact h1,by unfold dP; rw [PyData.depth]; omega⟩
theorem HH (q:List FI):SeqAt.shaped (dP q)=true:=by obtain ⟨a,b⟩:=Jz q; unfold SeqAt.shaped; rw [a]; simp; omega
theorem Cq {α:Type} {xs:List α} {v:α} (h:xs[xs.length - 1]?=some v):nJ xs (-1)=some v:=by
 have hl:0 < xs.length:=by
  have:=(List.getElem?_eq_some_iff.mp h).1
  omega
 have e:Hz xs.length (-1)=some (xs.length - 1):=by
  unfold Hz
  rw [if_neg (by decide),if_pos (by omega)]
  congr 1
  omega
 unfold nJ
 rw [e]
 exact h
abbrev D:=PyData
abbrev DS:=List (Option D)
def xh:List (Addr×List V):=[]
def b7:List (Addr×Pos×Str):=[(209,⟨42,22,42,69⟩,"plan_from.<locals>.<lambda>")]
theorem aA.l7 {H H':Hp} {a:Addr} {xs:List V} (s:aA H H') (h:de H a xs):de H' a xs:=by
 rcases h with h | ⟨ob,h⟩
 ·exact .inl (s _ _ h)
 ·exact .inr ⟨ob,s _ _ h⟩
def wo (H:Hp) (A:List Addr):Hp:=fun a=>if a∈A then none else H a
section
variable {K:PySem.W.Frag} {H H':Hp} {A A':List Addr} {a l p r:Addr} {o:HO}
theorem aY (h:a∉A):wo H A a=H a:=by unfold wo; rw [if_neg h]
theorem kf (h:a∈A):wo H A a=none:=by unfold wo; rw [if_pos h]
theorem dQ (h:wo H A a=some o):a∉A /\ H a=some o:=by
 unfold wo at h
 split at h
 ·cases h
 ·exact ⟨by assumption,h⟩
theorem bq:aA (wo H A) H:=fun _ _ h=>(dQ h).2
theorem cC (s:aA H H'):aA (wo H A) (wo H' A):=fun b u h=>by
 obtain ⟨h1,h2⟩:=dQ h
 rw [aY h1]; exact s b u h2
theorem kg (h:∀ a∈A',a∈A):aA (wo H A) (wo H A'):=fun b u q=>by
 obtain ⟨h1,h2⟩:=dQ q
 rw [aY fun z=>h1 (h b z)]; exact h2
theorem Cr:wo H []=H:=by funext a; exact aY (by simp)
theorem Cs (h:p∉A):wo (upd H p o) A=upd (wo H A) p o:=by
 funext a
 by_cases e:a=p
 ·subst e; rw [aY h,aZ,aZ]
 ·rw [aB e]
  by_cases z:a∈A
  ·rw [kf z,kf z]
  ·rw [aY z,aY z,aB e]
theorem Ct (h:l∈A):wo (upd H l o) A=wo H A:=by
 funext a
 by_cases z:a∈A
 ·rw [kf z,kf z]
 ·rw [aY z,aY z,aB]
  intro e; subst e; exact z h
theorem uO (h:H r=none):wo (upd H r o) (r :: A)=wo H A:=by
 funext a
 by_cases e:a=r
 ·subst e
  rw [kf (by simp)]
  by_cases z:a∈A
  ·rw [kf z]
  ·rw [aY z,h]
 ·by_cases z:a∈A
  ·rw [kf (by simp [z]),kf z]
  ·rw [aY (by simp [e,z]),aY z,aB e]
theorem zc (s:aA H H') (h:H r=none):aA (wo H A) (wo H' (r :: A)):=fun b u q=>by
 obtain ⟨h1,h2⟩:=dQ q
 rw [aY (by simp only [List.mem_cons,not_or]; exact ⟨aP h2 h,h1⟩)]
 exact s b u h2
def FJ:HO->Prop
 | .lst _=>True
 | .dT _=>True
 | _=>False
def Ls (A:List Addr) (H:Hp):Prop:=(∀ a∈A,∃ o,H a=some o /\ FJ o) /\ (∀ p xs,(p,xs)∈xh->de H p xs) /\ ∀ p y q,(p,y,q)∈b7->H p=some (.lam y q)
theorem Ls.same (h:Ls A H) (s:aA H H'):Ls A H':=⟨fun a ha=>let ⟨o,e,q⟩:=h.1 a ha; ⟨o,s _ _ e,q⟩,fun p xs m=>s.l7 (h.2.1 p xs m),fun p y q m=>s _ _ (h.2.2 p y q m)⟩
theorem de.apart {xs:List V} (t:de H p xs) (e:H l=some o) (w:FJ o):p≠l:=fun z=>by
 subst z
 rcases t with t | ⟨ob,t⟩ <;> rw [e] at t <;> cases t <;> exact w
theorem de.wo {xs:List V} (t:de H p xs) (n:p∉A):de (L2.wo H A) p xs:=by
 rcases t with t | ⟨ob,t⟩
 ·exact .inl (by rw [aY n]; exact t)
 ·exact .inr ⟨ob,by rw [aY n]; exact t⟩
theorem Ls.free (h:Ls A H) (n:H p=none):p∉A:=fun z=>by
 obtain ⟨ys,e,_⟩:=h.1 p z
 rw [n] at e; cases e
end
def cf (h:Heap) (e:Addr):Prop:=∃ o fs,h.get? e=some o /\ o.data=.fields fs /\ fs[2]?=some Value.none
def JA (a C:Addr):HO:=.ext fun h=>(∃ o,h.get? a=some o /\ o.cls=.ref C) /\ cf h a
def jC:Key->D:=Sum.elim .int .str
mutual
inductive HD (K:PySem.W.Frag) (H:Hp):V->D->Prop
 | gM:HD K H .gM .none
 | bl (b:Bool):HD K H (.bl b) (.bool b)
 | int (i:Int):HD K H (.int i) (.int i)
 | str (x:Str):HD K H (.str x) (.str x)
 | lst {a:Addr} {xs:List V} {ds:List D}:wK K H a xs->cj K H xs ds->HD K H (.ref a) (.list ds)
 | tup {a:Addr} {xs:List V} {ds:List D}:de H a xs->cj K H xs ds->HD K H (.ref a) (.tuple ds)
 | l8 {a:Addr} {aF:List (List Key×V)} {kds:List (D×D)}:H a=some (.dT aF)->kds.map (·.1)=aF.map (fun p=>PyData.tuple (p.1.map jC))->cj K H (aF.map (·.2)) (kds.map (·.2))->HD K H (.ref a) (.dict kds)
 | fz {a:Addr} {ob:Obj} {aF:List (List Key×V)} {kds:List (D×D)}:H a=some (.n6 ob (.dT aF))->kds.map (·.1)=aF.map (fun p=>PyData.tuple (p.1.map jC))->cj K H (aF.map (·.2)) (kds.map (·.2))->HD K H (.ref a) (.dict ((.list [],.bool true) :: kds))
 | fn {f c a:Addr} {q:Str} {ob:Obj} {aF:List (List Key×V)} {kds:List (D×D)}:H c=some (.code q)->H a=some (.n6 ob (.dT aF))->kds.map (·.1)=aF.map (fun p=>PyData.tuple (p.1.map jC))->cj K H (aF.map (·.2)) (kds.map (·.2))->HD K H (.ref f) (.dict [(.list [],.tuple [.int (f:Nat),.int (c:Nat),.int (a:Nat),.str q,.dict kds])])
 | exc {a C:Addr} {c:Str}:PySem.W.nsIn K mainGlobals c=some (some (.ref C))->H a=some (JA a C)->HD K H (.ref a) (.dict [(.list [],.tuple [.int (a:Nat),.str c])])
inductive cj (K:PySem.W.Frag) (H:Hp):List V->List D->Prop
 | nil:cj K H [] []
 | cons {x:V} {xs:List V} {d:D} {ds:List D}:HD K H x d->cj K H xs ds->cj K H (x :: xs) (d :: ds)
end
theorem aA.rd {H H':Hp} {a:Addr} {u:HO} (s:aA H H') (h:Rd H a u):Rd H' a u:=by
 rcases h with h | ⟨o,h⟩
 ·exact .inl (s _ _ h)
 ·exact .inr ⟨o,s _ _ h⟩
theorem wK.of {K:PySem.W.Frag} {H:Hp} {a:Addr} {xs:List V} (h:H a=some (.lst xs)):wK K H a xs:=.inl (.inl h)
theorem wK.sq {K:PySem.W.Frag} {H:Hp} {a:Addr} {xs:List V} (h:wK K H a xs):gN K H a xs:=by
 rcases h with h | ⟨its,n,h1,h2,h3⟩
 ·exact .inl h
 ·exact .inr ⟨_,its.toArray,n,h1,rfl,rfl,rfl,by rw [List.size_toArray]; exact h2,by simpa using h3⟩
theorem wK.same {K:PySem.W.Frag} {H H':Hp} {a:Addr} {xs:List V} (s:aA H H') (h:wK K H a xs):wK K H' a xs:=by
 rcases h with h | h
 ·exact .inl (s.rd h)
 ·exact .inr h
theorem Inv.UK {X:Cx} {pins:List (Addr×Obj)} {σ:St} {H:Hp} {s:Shared} {a:Addr} {xs:List V} (I:Inv X pins σ H s) (h:wK X.K H a xs):xs.length<=sizeLine /\ ∃ (its:List Value) (n:Nat),a4 xs its /\ s.heap.get? a=some { cls:=.type "list",data:=.seq its.toArray n }:=by
 rcases h with h | ⟨its,n,h1,h2,h3⟩
 ·exact h.ok I.be
 ·exact ⟨by rw [h3.length]; exact h2,its,n,h3,I.kU a _ h1⟩
theorem HD.same {K:PySem.W.Frag} {H H':Hp} (e:aA H H') {x:V} {d:D} (h:HD K H x d):HD K H' x d:=
 HD.rec (motive_1:=fun x d _=>HD K H' x d) (motive_2:=fun x d _=>cj K H' x d) .gM .bl .int .str (fun hq _ i=>.lst (hq.same e) i) (fun hq _ i=>.tup (e.l7 hq) i) (fun hq k _ i=>.l8 (e _ _ hq) k i) (fun hq k _ i=>.fz (e _ _ hq) k i) (fun h hq k _ i=>.fn (e _ _ h) (e _ _ hq) k i) (fun k h=>.exc k (e _ _ h)) .nil (fun _ _ i j=>.cons i j) h
theorem cj.same {K:PySem.W.Frag} {H H':Hp} (e:aA H H') {x:List V} {d:List D} (h:cj K H x d):cj K H' x d:=
 cj.rec (motive_1:=fun x d _=>HD K H' x d) (motive_2:=fun x d _=>cj K H' x d) .gM .bl .int .str (fun hq _ i=>.lst (hq.same e) i) (fun hq _ i=>.tup (e.l7 hq) i) (fun hq k _ i=>.l8 (e _ _ hq) k i) (fun hq k _ i=>.fz (e _ _ hq) k i) (fun h hq k _ i=>.fn (e _ _ h) (e _ _ hq) k i) (fun k h=>.exc k (e _ _ h)) .nil (fun _ _ i j=>.cons i j) h
section
variable {X:Cx} {pins:List (Addr×Obj)} {σ:St} {H:Hp} {s:Shared}
theorem bW {d:D} (h:SeqAt.shaped d=true):d.canLay0=true:=by
 unfold SeqAt.shaped at h
 rw [Bool.and_eq_true] at h
 exact h.1
theorem JB (I:Inv X pins σ H s) {a:Addr} {xs:List V} {ds:List D} {u:Value} (hq:wK X.K H a xs) (r:RelV (.ref a) u) (h:∀ {us},a4 xs us->∃ as,ReadsAll s.heap us ds as):∃ as,Reads s.heap u (.list ds) as:=by
 cases (show u=Value.ref a from r)
 obtain ⟨its,rv,⟨o,n,h1,h2,_,h3⟩,_⟩:=I.list hq.sq
 obtain ⟨as,q⟩:=h rv
 exact ⟨_,.list h1 h2 h3 (by simpa using q)⟩
theorem JC (I:Inv X pins σ H s) {a:Addr} {xs:List V} {ds:List D} {u:Value} (hq:de H a xs) (r:RelV (.ref a) u) (h:∀ {us},a4 xs us->∃ as,ReadsAll s.heap us ds as):∃ as,Reads s.heap u (.tuple ds) as:=by
 cases (show u=Value.ref a from r)
 obtain ⟨its,rv,⟨o,h1,h2,n,h3⟩,_⟩:=I.tuple (.inl hq)
 obtain ⟨as,q⟩:=h rv
 exact ⟨_,.tuple h1 h2 h3 (by simpa using q)⟩
theorem HD.reads (I:Inv X pins σ H s) {x:V} {d:D} (h:HD X.K H x d):∀ {u:Value},RelV x u->PyData.canLay0 d=true->∃ as,Reads s.heap u d as:=
 HD.rec (motive_1:=fun x d _=>∀ {u},RelV x u->d.canLay0=true->∃ as,Reads s.heap u d as) (motive_2:=fun x d _=>∀ {u},a4 x u->PyData.canLayAll0 d=true->∃ as,ReadsAll s.heap u d as)
  (fun {u} r _=>by cases (show u=Value.none from r); exact ⟨_,.none⟩) (fun b {u} r _=>by cases (show u=Value.bool b from r); exact ⟨_,.bool b⟩) (fun i {u} r _=>by obtain ⟨t,rfl⟩:=r; exact ⟨_,.int i t⟩) (fun i {u} r _=>by obtain ⟨t,rfl⟩:=r; exact ⟨_,.str i t⟩)
  (fun {_ _ _} hq _ i {_} r c=>JB I hq r fun rv=>i rv (by rw [PyData.canLay0] at c; exact c)) (fun {_ _ _} hq _ i {_} r c=>JC I hq r fun rv=>i rv (by rw [PyData.canLay0] at c; exact c)) (fun {_ _ _} _ _ _ _ {_} _ c=>by rw [PyData.canLay0] at c; cases c) (fun {_ _ _ _} _ _ _ _ {_} _ c=>by rw [PyData.canLay0] at c; cases c) (fun {_ _ _ _ _ _ _} _ _ _ _ _ {_} _ c=>by rw [PyData.canLay0] at c; cases c) (fun {_ _ _} _ _ {_} _ c=>by rw [PyData.canLay0] at c; cases c)
  (fun {_} r _=>by cases r; exact ⟨_,.nil⟩) (fun {_ _ _ _} _ _ i j {_} r c=>by
   rw [PyData.canLayAll0,Bool.and_eq_true] at c
   cases r with
   | cons r rs=>
     obtain ⟨as,q⟩:=i r c.1
     obtain ⟨bs,qs⟩:=j rs c.2
     exact ⟨_,.cons q qs⟩) h
end
theorem cj.len {K:PySem.W.Frag} {H:Hp}:∀ {xs:List V} {ds:List D},cj K H xs ds->xs.length=ds.length
 | _,_,.nil=>rfl
 | _,_,.cons _ t=>by rw [List.length_cons,List.length_cons,cj.len t]
theorem cj.get {K:PySem.W.Frag} {H:Hp}:∀ {xs:List V} {ds:List D} {i:Nat} {d:D},cj K H xs ds->ds[i]?=some d->∃ x,xs[i]?=some x /\ HD K H x d
 | _,_,_,_,.nil,e=>by simp at e
 | _,_,0,_,.cons r _,e=>by simp at e; subst e; exact ⟨_,rfl,r⟩
 | _,_,i + 1,y,.cons _ t,e=>by
   obtain ⟨u,h1,h2⟩:=cj.get (i:=i) (d:=y) t (by simpa using e)
   exact ⟨u,by simpa using h1,h2⟩
theorem cj.app {K:PySem.W.Frag} {H:Hp}:∀ {xs UL:List V} {ds UM:List D},cj K H xs ds->cj K H UL UM->cj K H (xs ++ UL) (ds ++ UM)
 | _,_,_,_,.nil,s=>s
 | _,_,_,_,.cons r t,s=>.cons r (cj.app t s)
theorem cj.HI {K:PySem.W.Frag} {H:Hp}:∀ {xs:List V} {ds:List D} (n:Nat),cj K H xs ds->cj K H (xs.take n) (ds.take n)
 | _,_,0,_=>.nil
 | _,_,_ + 1,.nil=>.nil
 | _,_,n + 1,.cons r t=>.cons r (cj.HI n t)
theorem cj.HJ {K:PySem.W.Frag} {H:Hp}:∀ {xs:List V} {ds:List D} (n:Nat),cj K H xs ds->cj K H (xs.drop n) (ds.drop n)
 | _,_,0,r=>r
 | _,_,_ + 1,.nil=>.nil
 | _,_,n + 1,.cons _ t=>cj.HJ n t
theorem cj.rev {K:PySem.W.Frag} {H:Hp}:∀ {xs:List V} {ds:List D},cj K H xs ds->cj K H xs.reverse ds.reverse
 | _,_,.nil=>.nil
 | _,_,.cons r t=>by rw [List.reverse_cons,List.reverse_cons]; exact (cj.rev t).app (.cons r .nil)
theorem cj.ints {K:PySem.W.Frag} {H:Hp}:∀ ns:List Int,cj K H (ns.map V.int) (ns.map PyData.int)
 | []=>.nil
 | n :: ns=>.cons (.int n) (cj.ints ns)
theorem FK {H:Hp} {A:List Addr} {a:Addr} {xs:List V} (h:de H a xs) (al:Ls A H):de (wo H A) a xs:=by
 rcases h with h | ⟨ob,h⟩
 ·refine .inl ?_
  rw [aY fun z=>?_]; exact h
  obtain ⟨o,e,q⟩:=al.1 a z
  rw [h] at e; cases e; exact q
 ·refine .inr ⟨ob,?_⟩
  rw [aY fun z=>?_]; exact h
  obtain ⟨o,e,q⟩:=al.1 a z
  rw [h] at e; cases e; exact q
inductive xi (K:PySem.W.Frag) (H:Hp):HO->D->Prop
 | lst {ys:List V} {ds:List D}:cj K H ys ds->xi K H (.lst ys) (.list ds)
 | l8 {aF:List (List Key×V)} {kds:List (D×D)}:kds.map (·.1)=aF.map (fun p=>PyData.tuple (p.1.map jC))->cj K H (aF.map (·.2)) (kds.map (·.2))->xi K H (.dT aF) (.dict kds)
theorem xi.same {K:PySem.W.Frag} {H H':Hp} {o:HO} {d:D} (s:aA H H') (h:xi K H o d):xi K H' o d:=by
 cases h with
 | lst q=>exact .lst (q.same s)
 | l8 k q=>exact .l8 k (q.same s)
theorem xi.own {K:PySem.W.Frag} {H:Hp} {o:HO} {d:D} (h:xi K H o d):FJ o:=by cases h <;> trivial
theorem xi.hd {K:PySem.W.Frag} {H:Hp} {o:HO} {d:D} {l:Addr} (h:xi K H o d) (e:H l=some o):HD K H (.ref l) d:=by
 cases h with
 | lst q=>exact .lst (.of e) q
 | l8 k q=>exact .l8 e k q
def rg:List (D×D)->Bool
 | (.list [],_) :: _=>true
 | _=>false
def fY (K:PySem.W.Frag) (A:List Addr) (H:Hp) (v:V) (d:D):Prop:=HD K (wo H A) v d \/ ∃ l o,v=.ref l /\ H l=some o /\ xi K (wo H A) o d
section
variable {K:PySem.W.Frag} {H H':Hp} {A A':List Addr} {v:V} {d:D}
theorem fY.of (h:HD K (wo H A) v d):fY K A H v d:=.inl h
theorem fY.same (s:aA H H') (h:fY K A H v d):fY K A H' v d:=by
 rcases h with h | ⟨l,o,rfl,e,q⟩
 ·exact .inl (h.same (cC s))
 ·exact .inr ⟨l,o,rfl,s _ _ e,q.same (cC s)⟩
theorem fY.HK (h:fY K A H v d):HD K H v d:=by
 rcases h with h | ⟨l,o,rfl,e,q⟩
 ·exact h.same bq
 ·exact (q.same bq).hd e
theorem fY.list {ds:List D} (h:fY K A H v (.list ds)):∃ l ys,v=.ref l /\ wK K H l ys /\ cj K (wo H A) ys ds:=by
 rcases h with h | ⟨l,o,rfl,e,q⟩
 ·cases h with
  | lst hq h=>exact ⟨_,_,rfl,hq.same bq,h⟩
 ·cases q with
  | lst q=>exact ⟨l,_,rfl,.of e,q⟩
theorem fY.Mi {ds:List D} (h:fY K A H v (.tuple ds)):∃ l ys,v=.ref l /\ de H l ys /\ cj K (wo H A) ys ds:=by
 rcases h with h | ⟨l,o,rfl,e,q⟩
 ·cases h with
  | tup hq h=>exact ⟨_,_,rfl,bq.l7 hq,h⟩
 ·cases q
theorem fY.tuple {ds:List D} (h:fY K A H v (.tuple ds)):∃ l ys,v=.ref l /\ jB K H l ys /\ cj K (wo H A) ys ds:=
 let ⟨l,ys,a,b,c⟩:=h.Mi; ⟨l,ys,a,.inl b,c⟩
theorem fY.dict {kds:List (D×D)} (h:fY K A H v (.dict kds)) (hf:rg kds=false):∃ l aF,v=.ref l /\ H l=some (.dT aF) /\ kds.map (·.1)=aF.map (fun p=>PyData.tuple (p.1.map jC)) /\ cj K (wo H A) (aF.map (·.2)) (kds.map (·.2)):=by
 rcases h with h | ⟨l,o,rfl,e,q⟩
 ·cases h with
  | l8 hq k h=>exact ⟨_,_,rfl,bq _ _ hq,k,h⟩
  | exc _ _=>cases hf
  | fz hq k h=>cases hf
  | fn _ hq k h=>cases hf
 ·cases q with
  | l8 k q=>exact ⟨l,_,rfl,e,k,q⟩
theorem fY.fz {ds:List D} (h:fY K A H v (.tuple ds)):HD K (wo H A) v (.tuple ds):=by
 rcases h with h | ⟨l,o,rfl,e,q⟩
 ·exact h
 ·cases q
theorem fY.int {i:Int} (h:fY K A H v (.int i)):v=.int i:=by
 rcases h with h | ⟨l,o,rfl,e,q⟩
 ·cases h; rfl
 ·cases q
theorem fY.bool {b:Bool} (h:fY K A H v (.bool b)):v=.bl b:=by
 rcases h with h | ⟨l,o,rfl,e,q⟩
 ·cases h; rfl
 ·cases q
theorem fY.str {b:Str} (h:fY K A H v (.str b)):v=.str b:=by
 rcases h with h | ⟨l,o,rfl,e,q⟩
 ·cases h; rfl
 ·cases q
theorem fY.gM (h:fY K A H v .none):v=.gM:=by
 rcases h with h | ⟨l,o,rfl,e,q⟩
 ·cases h; rfl
 ·cases q
end
structure Rel (K:PySem.W.Frag) (O:List Nat) (U A0:List Addr) (σ:St) (δ:DS) (H:Hp):Prop where
 len:σ.length=δ.length
 fz:∀ (i:Nat) d,i∉O->δ[i]?=some (some d)->∃ v,σ[i]?=some (some v) /\ HD K (wo H (U ++ A0)) v d
 ow:∀ (i:Nat) d,i∈O->δ[i]?=some (some d)->∃ l o,σ[i]?=some (some (.ref l)) /\ l∈U /\ H l=some o /\ xi K (wo H (U ++ A0)) o d
 inj:∀ (i j:Nat) d e l,i∈O->j∈O->i≠j->δ[i]?=some (some d)->δ[j]?=some (some e)->σ[i]?=some (some (.ref l))->σ[j]?=some (some (.ref l))->False
 al:Ls (U ++ A0) H
section
variable {K:PySem.W.Frag} {O:List Nat} {U A0:List Addr} {σ:St} {δ:DS} {H H':Hp}
theorem Rel.same (R:Rel K O U A0 σ δ H) (s:aA H H'):Rel K O U A0 σ δ H' where
 len:=R.len
 fz:=fun i d hi e=>let ⟨v,a,b⟩:=R.fz i d hi e; ⟨v,a,b.same (cC s)⟩
 ow:=fun i d hi e=>let ⟨l,o,a,c,f,g⟩:=R.ow i d hi e; ⟨l,o,a,c,s _ _ f,g.same (cC s)⟩
 inj:=R.inj
 al:=R.al.same s
theorem Rel.UN (R:Rel K O U A0 σ δ H) (i:Nat) (d:D) (hi:i∈O) (e:δ[i]?=some (some d)):(∃ l ys ds,σ[i]?=some (some (.ref l)) /\ d=.list ds /\ l∈U /\ H l=some (.lst ys) /\ cj K (wo H (U ++ A0)) ys ds) \/ ∃ kds,d=.dict kds:=by
 obtain ⟨l,o,a,c,f,g⟩:=R.ow i d hi e
 cases g with
 | lst q=>exact .inl ⟨l,_,_,a,rfl,c,f,q⟩
 | l8 k q=>exact .inr ⟨_,rfl⟩
theorem Rel.at (R:Rel K O U A0 σ δ H) {i:Nat} {d:D} (e:δ[i]?=some (some d)):∃ v,σ[i]?=some (some v) /\ fY K (U ++ A0) H v d:=by
 by_cases hi:i∈O
 ·obtain ⟨l,o,a,c,f,g⟩:=R.ow i d hi e
  exact ⟨_,a,.inr ⟨l,o,rfl,f,g⟩⟩
 ·obtain ⟨v,a,b⟩:=R.fz i d hi e
  exact ⟨v,a,.inl b⟩
theorem Rel.set (R:Rel K O U A0 σ δ H) {i:Nat} {v:V} {d:D} (hi:i∉O) (h:HD K (wo H (U ++ A0)) v d):Rel K O U A0 (σ.set i (some v)) (δ.set i (some d)) H where
 len:=by rw [List.length_set,List.length_set]; exact R.len
 fz:=fun j e hj q=>by
  by_cases qm:i=j
  ·subst qm
   have hl:i < δ.length:=by have:=(List.getElem?_eq_some_iff.mp q).1; rwa [List.length_set] at this
   rw [List.getElem?_set_self hl] at q
   cases q
   exact ⟨v,List.getElem?_set_self (by rw [R.len]; exact hl),h⟩
  ·rw [List.getElem?_set_ne qm] at q ⊢
   exact R.fz j e hj q
 ow:=fun j e hj q=>by
  have qm:i≠j:=fun z=>hi (z ▸ hj)
  rw [List.getElem?_set_ne qm] at q ⊢
  exact R.ow j e hj q
 inj:=fun j k d e l hj hk Lf q1 q2 e1 e2=>by
  have qm:i≠j:=fun z=>hi (z ▸ hj)
  have HL:i≠k:=fun z=>hi (z ▸ hk)
  rw [List.getElem?_set_ne qm] at q1 e1
  rw [List.getElem?_set_ne HL] at q2 e2
  exact R.inj j k d e l hj hk Lf q1 q2 e1 e2
 al:=R.al
theorem Rel.Mj (R:Rel K O U A0 σ δ H) (s:aA H H') {i:Nat} {r:Addr} {ob:HO} {db:D} (hr:H r=none) (h:H' r=some ob) (q:xi K (wo H' (r :: (U ++ A0))) ob db) (hi:i∈O):
  Rel K O (r :: U) A0 (σ.set i (some (.ref r))) (δ.set i (some db)) H' where
 len:=by rw [List.length_set,List.length_set]; exact R.len
 fz:=fun j e hj q=>by
  have qm:i≠j:=fun z=>hj (z ▸ hi)
  rw [List.getElem?_set_ne qm] at q ⊢
  obtain ⟨v,a,b⟩:=R.fz j e hj q
  exact ⟨v,a,b.same (zc s hr)⟩
 ow:=fun j e hj w=>by
  by_cases qm:i=j
  ·subst qm
   have hl:i < δ.length:=by have:=(List.getElem?_eq_some_iff.mp w).1; rwa [List.length_set] at this
   rw [List.getElem?_set_self hl] at w
   cases w
   exact ⟨r,ob,List.getElem?_set_self (by rw [R.len]; exact hl),by simp,h,q⟩
  ·rw [List.getElem?_set_ne qm] at w ⊢
   obtain ⟨l,o,a,c,f,g⟩:=R.ow j e hj w
   exact ⟨l,o,a,by simp [c],s _ _ f,g.same (zc s hr)⟩
 inj:=fun j k d e l hj hk Lf q1 q2 e1 e2=>by
  have Mk:∀ {x:D},(δ.set i (some db))[i]?=some (some x)->i < δ.length:=fun w=>by have:=(List.getElem?_eq_some_iff.mp w).1; rwa [List.length_set] at this
  by_cases qm:i=j
  ·subst qm
   have HL:i≠k:=Lf
   rw [List.getElem?_set_self (by rw [R.len]; exact Mk q1)] at e1
   rw [List.getElem?_set_ne HL] at q2 e2
   cases e1
   obtain ⟨l,o,a,c,f,g⟩:=R.ow k e hk q2
   rw [a] at e2; cases e2
   rw [hr] at f; cases f
  ·by_cases HL:i=k
   ·subst HL
    rw [List.getElem?_set_self (by rw [R.len]; exact Mk q2)] at e2
    rw [List.getElem?_set_ne qm] at q1 e1
    cases e2
    obtain ⟨l,o,a,c,f,g⟩:=R.ow j d hj q1
    rw [a] at e1; cases e1
    rw [hr] at f; cases f
   ·rw [List.getElem?_set_ne qm] at q1 e1
    rw [List.getElem?_set_ne HL] at q2 e2
    exact R.inj j k d e l hj hk Lf q1 q2 e1 e2
 al:=⟨fun a ha=>by
  rcases List.mem_append.mp ha with z | z
  ·rcases List.mem_cons.mp z with z | z
   ·subst z; exact ⟨ob,h,q.own⟩
   ·exact (R.al.same s).1 a (List.mem_append_left _ z)
  ·exact (R.al.same s).1 a (List.mem_append_right _ z),(R.al.same s).2⟩
theorem Rel.O9 (R:Rel K O U A0 σ δ H) (s:aA H H') {i:Nat} {r:Addr} {ys:List V} {ds:List D} (hr:H r=none) (h:H' r=some (.lst ys)) (q:cj K (wo H' (r :: (U ++ A0))) ys ds) (hi:i∈O):
  Rel K O (r :: U) A0 (σ.set i (some (.ref r))) (δ.set i (some (.list ds))) H':=R.Mj s hr h (.lst q) hi
theorem Rel.Ml (R:Rel K O U A0 σ δ H) {i:Nat} {l:Addr} {ob:HO} {db:D} (hi:i∈O) (hl:σ[i]?=some (some (.ref l))) (hU:l∈U) (q:xi K (wo H (U ++ A0)) ob db) (hd:∃ d,δ[i]?=some (some d)):
  Rel K O U A0 σ (δ.set i (some db)) (upd H l ob):=by
 have hw:wo (upd H l ob) (U ++ A0)=wo H (U ++ A0):=Ct (List.mem_append_left _ hU)
 obtain ⟨d0,hd⟩:=hd
 have hlen:i < δ.length:=(List.getElem?_eq_some_iff.mp hd).1
 exact {
  len:=by rw [List.length_set]; exact R.len
  fz:=fun j e hj w=>by
   have qm:i≠j:=fun z=>hj (z ▸ hi)
   rw [List.getElem?_set_ne qm] at w
   rw [hw]
   exact R.fz j e hj w
  ow:=fun j e hj w=>by
   rw [hw]
   by_cases qm:i=j
   ·subst qm
    rw [List.getElem?_set_self hlen] at w
    cases w
    exact ⟨l,ob,hl,hU,aZ,q⟩
   ·rw [List.getElem?_set_ne qm] at w
    obtain ⟨l',o',a,c,f,g⟩:=R.ow j e hj w
    have el:l'≠l:=by
     intro z; subst z
     exact R.inj i j d0 e _ hi hj qm hd w hl a
    exact ⟨l',o',a,c,by rw [aB el]; exact f,g⟩
  inj:=fun j k d e l hj hk Lf q1 q2 e1 e2=>by
   have f:∀ {m:Nat} {x:D},(δ.set i (some db))[m]?=some (some x)->∃ y,δ[m]?=some (some y):=by
    intro m x w
    by_cases UO:i=m
    ·subst UO; exact ⟨d0,hd⟩
    ·rw [List.getElem?_set_ne UO] at w; exact ⟨x,w⟩
   obtain ⟨y1,w1⟩:=f q1
   obtain ⟨y2,w2⟩:=f q2
   exact R.inj j k y1 y2 l hj hk Lf w1 w2 e1 e2
  al:=⟨fun a ha=>by
   by_cases e:a=l
   ·subst e; exact ⟨ob,aZ,q.own⟩
   ·rw [aB e]; exact R.al.1 a ha,fun p xs m=>
    let ⟨_,e,w⟩:=R.al.1 l (List.mem_append_left _ hU)
    (R.al.2.1 p xs m).ne ((R.al.2.1 p xs m).apart e w),fun p y q m=>by
    obtain ⟨_,e,w⟩:=R.al.1 l (List.mem_append_left _ hU)
    rw [aB fun z=>?_]
    ·exact R.al.2.2 p y q m
    ·have t:=R.al.2.2 p y q m
     rw [z,e] at t; cases t; exact w⟩ }
theorem Rel.put (R:Rel K O U A0 σ δ H) {i:Nat} {l:Addr} {ys:List V} {ds:List D} (hi:i∈O) (hl:σ[i]?=some (some (.ref l))) (hU:l∈U) (q:cj K (wo H (U ++ A0)) ys ds) (hd:∃ d,δ[i]?=some (some d)):
  Rel K O U A0 σ (δ.set i (some (.list ds))) (upd H l (.lst ys)):=R.Ml hi hl hU (.lst q) hd
end
structure Fx (H0:Hp) (A0 U:List Addr) (H:Hp):Prop where
 same:aA H0 H
 new:∀ a∈U,H0 a=none
 old:Ls A0 H0
section
variable {K:PySem.W.Frag} {O:List Nat} {U U' A0:List Addr} {σ:St} {δ:DS} {H0 H H':Hp}
theorem Fx.grow (F:Fx H0 A0 U H) (s:aA H H'):Fx H0 A0 U H':=⟨F.same.trans s,F.new,F.old⟩
theorem Fx.more (F:Fx H0 A0 U H) (s:aA H H') {r:Addr} (hr:H r=none):Fx H0 A0 (r :: U) H':=⟨F.same.trans s,fun a ha=>by
 rcases List.mem_cons.mp ha with z | z
 ·subst z; exact F.same.free hr
 ·exact F.new a z,F.old⟩
theorem Fx.put (F:Fx H0 A0 U H) {l:Addr} (hl:l∈U) (o:HO):Fx H0 A0 U (upd H l o):=⟨F.same.upd (F.new l hl) o,F.new,F.old⟩
theorem Fx.out (F:Fx H0 A0 U H) {l:Addr} (hl:l∈U):l∉A0:=fun z=>by
 obtain ⟨ys,e,_⟩:=F.old.1 l z
 rw [F.new l hl] at e; cases e
theorem Fx.here (F:Fx H0 A0 U H):Fx (wo H U) A0 U H:=⟨bq,fun _ h=>kf h,fun a ha=>by
 obtain ⟨ys,e,q⟩:=F.old.1 a ha
 refine ⟨ys,?_,q⟩
 rw [aY fun z=>?_]
 ·exact F.same _ _ e
 ·exact F.out z ha,fun p xs m=>(F.same.l7 (F.old.2.1 p xs m)).wo fun z=>(by
 rcases F.old.2.1 p xs m with t | ⟨ob,t⟩ <;> rw [F.new p z] at t <;> cases t),fun p y q m=>by
 rw [aY fun z=>?_]
 ·exact F.same _ _ (F.old.2.2 p y q m)
 ·have t:=F.old.2.2 p y q m
  rw [F.new p z] at t; cases t⟩
theorem Fx.trans (F:Fx H0 A0 U H) (G:Fx (wo H U) A0 U' H'):Fx H0 A0 U' H':=by
 have k:∀ a o,H0 a=some o->wo H U a=some o:=fun a o e=>by
  rw [aY fun z=>?_]
  ·exact F.same _ _ e
  ·rw [F.new a z] at e; cases e
 refine ⟨fun a o e=>G.same _ _ (k a o e),fun a ha=>?_,F.old⟩
 cases e:H0 a with
 | none=>rfl
 | some o=>
   have:=G.new a ha
   rw [k a o e] at this; cases this
theorem Fx.keeps (G:Fx (wo H U) A0 U' H'):aA (wo H (U ++ A0)) (wo H' (U' ++ A0)):=fun b o e=>by
 obtain ⟨h1,h2⟩:=dQ e
 simp only [List.mem_append,not_or] at h1
 have h3:wo H U b=some o:=by rw [aY h1.1]; exact h2
 rw [aY]
 ·exact G.same _ _ h3
 ·simp only [List.mem_append,not_or]
  refine ⟨fun z=>?_,h1.2⟩
  rw [G.new b z] at h3; cases h3
end
def tE (K:PySem.W.Frag) (O:List Nat) (g:DS->Option D):TE:=fun σ H Q=>∃ U A0 δ d,Rel K O U A0 σ δ H /\ g δ=some d /\ ∀ v H',aA H H'->HD K (wo H' (U ++ A0)) v d->Q v H'
theorem tE.e {K:PySem.W.Frag} {O:List Nat} {g:DS->Option D}  {σ:_} {H:_} {Q:_} {GG:Prop} (hh:tE K O g σ H Q) (kk:∀ U A0 δ d,(Rel K O U A0 σ δ H)->(g δ=some d)->(∀ v H',aA H H'->HD K (wo H' (U ++ A0)) v d->Q v H')->GG):GG:=by obtain ⟨U,A0,δ,d,x0,x1,x2⟩:=hh; exact kk U A0 δ d x0 x1 x2
def gU (K:PySem.W.Frag) (O:List Nat) (g:DS->Option D):TE:=fun σ H Q=>∃ U A0 δ d,Rel K O U A0 σ δ H /\ g δ=some d /\ ∀ v H',aA H H'->fY K (U ++ A0) H' v d->Q v H'
theorem gU.e {K:PySem.W.Frag} {O:List Nat} {g:DS->Option D}  {σ:_} {H:_} {Q:_} {GG:Prop} (hh:gU K O g σ H Q) (kk:∀ U A0 δ d,(Rel K O U A0 σ δ H)->(g δ=some d)->(∀ v H',aA H H'->fY K (U ++ A0) H' v d->Q v H')->GG):GG:=by obtain ⟨U,A0,δ,d,x0,x1,x2⟩:=hh; exact kk U A0 δ d x0 x1 x2
def tN (K:PySem.W.Frag) (O:List Nat) (g:DS->Option (List D)):TE:=fun σ H Q=>∃ U A0 δ ds,Rel K O U A0 σ δ H /\ g δ=some ds /\
 ∀ r ys H',aA H H'->H r=none->H' r=some (.lst ys)->cj K (wo H' (r :: (U ++ A0))) ys ds->Q (.ref r) H'
theorem tN.e {K:PySem.W.Frag} {O:List Nat} {g:DS->Option (List D)}  {σ:_} {H:_} {Q:_} {GG:Prop} (hh:tN K O g σ H Q) (kk:∀ U A0 δ ds,(Rel K O U A0 σ δ H)->(g δ=some ds)->(∀ r ys H',aA H H'->H r=none->H' r=some (.lst ys)->cj K (wo H' (r :: (U ++ A0))) ys ds->Q (.ref r) H')->GG):GG:=by obtain ⟨U,A0,δ,ds,x0,x1,x2⟩:=hh; exact kk U A0 δ ds x0 x1 x2
def tT (K:PySem.W.Frag) (O:List Nat) (g:DS->Option Bool):TT:=fun σ H Q=>∃ U A0 δ b,Rel K O U A0 σ δ H /\ g δ=some b /\ ∀ H',aA H H'->Q b H'
theorem tT.e {K:PySem.W.Frag} {O:List Nat} {g:DS->Option Bool}  {σ:_} {H:_} {Q:_} {GG:Prop} (hh:tT K O g σ H Q) (kk:∀ U A0 δ b,(Rel K O U A0 σ δ H)->(g δ=some b)->(∀ H',aA H H'->Q b H')->GG):GG:=by obtain ⟨U,A0,δ,b,x0,x1,x2⟩:=hh; exact kk U A0 δ b x0 x1 x2
def rh (K:PySem.W.Frag) (O:List Nat) (g:DS->Option (List D)):TA:=fun σ H Q=>∃ U A0 δ ds,Rel K O U A0 σ δ H /\ g δ=some ds /\ ∀ vs H',aA H H'->cj K (wo H' (U ++ A0)) vs ds->Q vs H'
theorem rh.e {K:PySem.W.Frag} {O:List Nat} {g:DS->Option (List D)}  {σ:_} {H:_} {Q:_} {GG:Prop} (hh:rh K O g σ H Q) (kk:∀ U A0 δ ds,(Rel K O U A0 σ δ H)->(g δ=some ds)->(∀ vs H',aA H H'->cj K (wo H' (U ++ A0)) vs ds->Q vs H')->GG):GG:=by obtain ⟨U,A0,δ,ds,x0,x1,x2⟩:=hh; exact kk U A0 δ ds x0 x1 x2
def uP (K:PySem.W.Frag) (A:List Addr) (H:Hp):List V->List D->Prop:=Paired (fY K A H)
def qo (K:PySem.W.Frag) (O:List Nat) (g:DS->Option (List D)):TA:=fun σ H Q=>∃ U A0 δ ds,Rel K O U A0 σ δ H /\ g δ=some ds /\ ∀ vs H',aA H H'->uP K (U ++ A0) H' vs ds->Q vs H'
theorem qo.e {K:PySem.W.Frag} {O:List Nat} {g:DS->Option (List D)}  {σ:_} {H:_} {Q:_} {GG:Prop} (hh:qo K O g σ H Q) (kk:∀ U A0 δ ds,(Rel K O U A0 σ δ H)->(g δ=some ds)->(∀ vs H',aA H H'->uP K (U ++ A0) H' vs ds->Q vs H')->GG):GG:=by obtain ⟨U,A0,δ,ds,x0,x1,x2⟩:=hh; exact kk U A0 δ ds x0 x1 x2
inductive Res where
 | nx (δ:DS) | rt (d:D) | bk (δ:DS) | ct (δ:DS)
def kh (K:PySem.W.Frag) (fr:Bool) (H0:Hp) (A0:List Addr) (v:V) (d:D) (H':Hp):Prop:=
 if fr=true then ∃ r o,v=.ref r /\ aA H0 H' /\ H0 r=none /\ H' r=some o /\ xi K (wo H' (r :: A0)) o d else aA H0 H' /\ HD K (wo H' A0) v d
def r8 (c:Str):D:=.dict [(.none,.str c)]
abbrev Fr:=Bool×(Str->Hp->Prop)
def Mm (K:PySem.W.Frag) (O:List Nat) (fr:Fr) (H0:Hp) (A0:List Addr) (E:Ends):Res->Prop
 | .nx δ=>∀ U σ H,Rel K O U A0 σ δ H->Fx H0 A0 U H->E.nx σ H
 | .bk δ=>∀ U σ H,Rel K O U A0 σ δ H->Fx H0 A0 U H->E.bk σ H
 | .ct δ=>∀ U σ H,Rel K O U A0 σ δ H->Fx H0 A0 U H->E.ct σ H
 | .rt d=>(∀ v H,kh K fr.1 H0 A0 v d H->E.rt v H) /\ ∀ c H,d=r8 c->aA H0 H->fr.2 c H
def tS (K:PySem.W.Frag) (O:List Nat) (fr:Fr) (g:DS->Option Res):TS:=fun E σ H=>∃ H0 U A0 δ r,Rel K O U A0 σ δ H /\ Fx H0 A0 U H /\ g δ=some r /\ Mm K O fr H0 A0 E r
theorem tS.e {K:PySem.W.Frag} {O:List Nat} {fr:Fr} {g:DS->Option Res}  {E:_} {σ:_} {H:_} {GG:Prop} (hh:tS K O fr g E σ H) (kk:∀ H0 U A0 δ r,(Rel K O U A0 σ δ H)->(Fx H0 A0 U H)->(g δ=some r)->(Mm K O fr H0 A0 E r)->GG):GG:=by obtain ⟨H0,U,A0,δ,r,x0,x1,x2,x3⟩:=hh; exact kk H0 U A0 δ r x0 x1 x2 x3
def Walks (K:PySem.W.Frag) (A:List Addr) (H1:Hp) (J:It) (ds:List D):Prop:=∀ (A':List Addr) (i:Nat) (H:Hp),aA (wo H1 A) (wo H A')->Ls A' H->
 (∀ d,ds[i]?=some d->J.go i H /\ ∀ x H2,J.LR i H x H2->aA H H2 /\ HD K (wo H2 A') x d) /\ (i=ds.length->J.stop i H)
def tI (K:PySem.W.Frag) (O:List Nat) (g:DS->Option (List D)):TI:=fun σ H R=>∃ U A0 δ ds,Rel K O U A0 σ δ H /\ g δ=some ds /\ ∀ J H1,aA H H1->Walks K (U ++ A0) H1 J ds->R J H1
theorem tI.e {K:PySem.W.Frag} {O:List Nat} {g:DS->Option (List D)}  {σ:_} {H:_} {R:_} {GG:Prop} (hh:tI K O g σ H R) (kk:∀ U A0 δ ds,(Rel K O U A0 σ δ H)->(g δ=some ds)->(∀ J H1,aA H H1->Walks K (U ++ A0) H1 J ds->R J H1)->GG):GG:=by obtain ⟨U,A0,δ,ds,x0,x1,x2⟩:=hh; exact kk U A0 δ ds x0 x1 x2
def tG (K:PySem.W.Frag) (O:List Nat) (g:D->DS->Option DS):TG:=fun v σ H Q=>∃ U A0 δ d δ',Rel K O U A0 σ δ H /\ HD K (wo H (U ++ A0)) v d /\ g d δ=some δ' /\ ∀ cb,Rel K O U A0 cb δ' H->Q cb H
theorem tG.e {K:PySem.W.Frag} {O:List Nat} {g:D->DS->Option DS}  {v:_} {σ:_} {H:_} {Q:_} {GG:Prop} (hh:tG K O g v σ H Q) (kk:∀ U A0 δ d δ',(Rel K O U A0 σ δ H)->(HD K (wo H (U ++ A0)) v d)->(g d δ=some δ')->(∀ cb,Rel K O U A0 cb δ' H->Q cb H)->GG):GG:=by obtain ⟨U,A0,δ,d,δ',x0,x1,x2,x3⟩:=hh; exact kk U A0 δ d δ' x0 x1 x2 x3
section
variable {X:Cx}
theorem PE.mono {e:Expr} {t t':TE} (h:PE X e t) (m:∀ σ H Q,t' σ H Q->t σ H Q):PE X e t':=fun pins s σ H Q I q=>h pins s σ H Q I (m σ H Q q)
theorem PT.mono {e:Expr} {t t':TT} (h:PT X e t) (m:∀ σ H Q,t' σ H Q->t σ H Q):PT X e t':=fun pins s σ H Q I q=>h pins s σ H Q I (m σ H Q q)
theorem PW.mono {e:Expr} {t t':TT} (h:PW X e t) (m:∀ σ H Q,t' σ H Q->t σ H Q):PW X e t':=fun w pins s σ H Q I q=>h w pins s σ H Q I (m σ H Q q)
theorem PA.mono {e:List Expr} {t t':TA} (h:PA X e t) (m:∀ σ H Q,t' σ H Q->t σ H Q):PA X e t':=fun pos pins s σ H Q I q=>h pos pins s σ H Q I (m σ H Q q)
theorem PS.mono {e:Stmt} {t t':TS} (h:PS X e t) (m:∀ E σ H,t' E σ H->t E σ H):PS X e t':=fun pins s σ H E I q=>h pins s σ H E I (m E σ H q)
theorem jy.mono {e:List Stmt} {t t':TS} (h:jy X e t) (m:∀ E σ H,t' E σ H->t E σ H):jy X e t':=fun pins s σ H E I q=>h pins s σ H E I (m E σ H q)
theorem PI.mono {tg e:Expr} {t t':TI} (h:PI X tg e t) (m:∀ σ H R,t' σ H R->t σ H R):PI X tg e t':=fun pins s σ H R I q=>h pins s σ H R I (m σ H R q)
theorem PG.mono {e:Expr} {t t':TG} (h:PG X e t) (m:∀ v σ H Q,t' v σ H Q->t v σ H Q):PG X e t':=fun pins s σ H v u Q I r q=>h pins s σ H v u Q I r (m v σ H Q q)
theorem PO.mono {e:Option Expr} {t t':TO} (h:PO X e t) (m:∀ σ H Q,t' σ H Q->t σ H Q):PO X e t':=fun pins s σ H Q I q=>h pins s σ H Q I (m σ H Q q)
end
def ae (i:Nat):DS->Option D:=fun δ=>(δ[i]?).join
def gC (d:D):DS->Option D:=fun _=>some d
def ax (g:DS->Option (List D)):DS->Option D:=fun δ=>(g δ).map .list
theorem join_some {α:Type} {o:Option (Option α)} {d:α} (h:o.join=some d):o=some (some d):=by
 cases o with
 | none=>cases h
 | some p=>cases p with
   | none=>cases h
   | some q=>cases h; rfl
section
variable {X:Cx} {O:List Nat} {e:Expr} {g:DS->Option D}
theorem aq {i:Nat} (h:PE X e (uz i)) (hi:i∉O:=by decide):PE X e (tE X.K O (ae i)):=h.mono fun σ H Q hh=>hh.e fun U A0 δ d R ed q=>by
 obtain ⟨v,hv,hd⟩:=R.fz i d hi (join_some ed)
 exact ⟨v,hv,q v H (aA.refl H) hd⟩
theorem ag {i:Nat} (h:PE X e (uz i)):PE X e (gU X.K O (ae i)):=h.mono fun σ H Q hh=>hh.e fun U A0 δ d R ed q=>by
 obtain ⟨v,hv,hd⟩:=R.at (join_some ed)
 exact ⟨v,hv,q v H (aA.refl H) hd⟩
theorem JD {v:V} {d:D} (h:PE X e (tC v)) (hd:∀ H,HD X.K H v d):PE X e (tE X.K O (gC d)):=h.mono fun σ H Q hh=>hh.e fun U A0 δ d' R ed q=>by
 cases ed
 exact q v H (aA.refl H) (hd _)
theorem ak {i:Int} (h:PE X e (tC (.int i))):PE X e (tE X.K O (gC (.int i))):=JD h fun _=>.int i
theorem jh {i:Bool} (h:PE X e (tC (.bl i))):PE X e (tE X.K O (gC (.bool i))):=JD h fun _=>.bl i
theorem fw {i:Str} (h:PE X e (tC (.str i))):PE X e (tE X.K O (gC (.str i))):=JD h fun _=>.str i
theorem PE.sh (h:PE X e (tE X.K O g)):PE X e (gU X.K O g):=h.mono fun σ H Q hh=>hh.e fun U A0 δ d R ed q=>⟨U,A0,δ,d,R,ed,fun v H' s z=>q v H' s (.inl z)⟩
theorem HM {K:PySem.W.Frag} {g:DS->Option (List D)} {σ:St} {H:Hp} {Q:VK}:tE K O (ax g) σ H Q->tN K O g σ H Q:=fun ⟨U,A0,δ,d,R,ed,q⟩=>by
 unfold ax at ed
 cases eg:g δ with
 | none=>rw [eg] at ed; cases ed
 | some ds=>
   rw [eg] at ed; cases ed
   refine ⟨U,A0,δ,ds,R,eg,fun r ys H' s hr h1 h2=>q _ H' s ?_⟩
   have hn:=R.al.free hr
   exact .lst (.of (by rw [aY hn]; exact h1)) (h2.same (kg fun a ha=>List.mem_cons_of_mem _ ha))
theorem PE.nE {g:DS->Option (List D)} (h:PE X e (tN X.K O g)):PE X e (tE X.K O (ax g)):=h.mono fun _ _ _=>HM
end
def g2 (f:D->D->Option D) (a b:DS->Option D):DS->Option D:=fun δ=>(a δ).bind fun x=>(b δ).bind fun y=>f x y
def kM (f:D->D->Option (List D)) (a b:DS->Option D):DS->Option (List D):=fun δ=>(a δ).bind fun x=>(b δ).bind fun y=>f x y
def i4 (K:PySem.W.Frag) (r:R2) (f:D->D->Option D):Prop:=∀ (A:List Addr) (H:Hp) (x y:V) (dx dy d:D) (Q:VK),Ls A H->fY K A H x dx->fY K A H y dy->f dx dy=some d->(∀ v H',aA H H'->HD K (wo H' A) v d->Q v H')->r x y H Q
def Cu (K:PySem.W.Frag) (r:R2) (f:D->D->Option (List D)):Prop:=∀ (A:List Addr) (H:Hp) (x y:V) (dx dy:D) (ds:List D) (Q:VK),Ls A H->fY K A H x dx->fY K A H y dy->f dx dy=some ds->
 (∀ p ys,H p=none->cj K (wo H A) ys ds->Q (.ref p) (upd H p (.lst ys)))->r x y H Q
theorem zd {α β γ:Type} {a:Option α} {b:Option β} {f:α->β->Option γ} {d:γ} (h:(a.bind fun x=>b.bind fun y=>f x y)=some d):∃ x y,a=some x /\ b=some y /\ f x y=some d:=by
 cases a with
 | none=>cases h
 | some x=>cases b with
   | none=>cases h
   | some y=>exact ⟨x,y,rfl,rfl,h⟩
theorem bind1 {α β:Type} {a:Option α} {f:α->Option β} {d:β} (h:a.bind f=some d):∃ x,a=some x /\ f x=some d:=by
 cases a with
 | none=>cases h
 | some x=>exact ⟨x,rfl,h⟩
section
variable {X:Cx} {O:List Nat} {a b:Expr} {ga gb:DS->Option D} {pos:Pos} {r:R2}
theorem ze {K:PySem.W.Frag} {f:D->D->Option D} (imp:i4 K r f) {σ:St} {H:Hp} {Q:VK}:tE K O (g2 f ga gb) σ H Q->Lb r (gU K O ga) (gU K O gb) σ H Q:=fun ⟨U,A0,δ,d,R,ed,q⟩=>by
 obtain ⟨x,y,ex,ey,ef⟩:=zd ed
 exact ⟨U,A0,δ,x,R,ex,fun v1 H1 s1 h1=>⟨U,A0,δ,y,R.same s1,ey,fun v2 H2 s2 h2=>imp _ H2 v1 v2 x y d Q (R.same (s1.trans s2)).al (h1.same s2) h2 ef fun v H' s h=>q v H' ((s1.trans s2).trans s) h⟩⟩
theorem ri {K:PySem.W.Frag} {A:List Addr} {H H2:Hp} {ds:List D} {Q:VK} (s:aA H H2) (q:∀ r ys H',aA H H'->H r=none->H' r=some (.lst ys)->cj K (wo H' (r :: A)) ys ds->Q (.ref r) H'):∀ p ys,H2 p=none->cj K (wo H2 A) ys ds->Q (.ref p) (upd H2 p (.lst ys)):=
 fun p ys hp h=>q p ys _ (s.trans (bG hp _)) (s.free hp) aZ (by rw [uO hp]; exact h)
theorem Mn {K:PySem.W.Frag} {f:D->D->Option (List D)} (imp:Cu K r f) {σ:St} {H:Hp} {Q:VK}:tN K O (kM f ga gb) σ H Q->Lb r (gU K O ga) (gU K O gb) σ H Q:=fun ⟨U,A0,δ,d,R,ed,q⟩=>by
 obtain ⟨x,y,ex,ey,ef⟩:=zd ed
 exact ⟨U,A0,δ,x,R,ex,fun v1 H1 s1 h1=>⟨U,A0,δ,y,R.same s1,ey,fun v2 H2 s2 h2=>imp _ H2 v1 v2 x y d Q (R.same (s1.trans s2)).al (h1.same s2) h2 ef (ri (s1.trans s2) q)⟩⟩
theorem aH {op:Operator} {f:D->D->Option D} (ho:gT X (binaryOp op) r) (imp:i4 X.K r f) (ha:PE X a (gU X.K O ga)) (hb:PE X b (gU X.K O gb)):PE X (.BinOp a op b pos) (tE X.K O (g2 f ga gb)):=(Hu ho ha hb).mono fun _ _ _=>ze imp
theorem dq {op:Operator} {f:D->D->Option (List D)} (ho:gT X (binaryOp op) r) (imp:Cu X.K r f) (ha:PE X a (gU X.K O ga)) (hb:PE X b (gU X.K O gb)):PE X (.BinOp a op b pos) (tN X.K O (kM f ga gb)):=(Hu ho ha hb).mono fun _ _ _=>Mn imp
theorem mX {op:CmpOp} {f:D->D->Option D} (ho:gT X (compareOp op) r) (imp:i4 X.K r f) (ha:PE X a (gU X.K O ga)) (hb:PE X b (gU X.K O gb)) (hm:behindInMarks op b=false):PE X (.Compare a [op] [b] pos) (tE X.K O (g2 f ga gb)):=(Ff ho ha hb hm).mono fun _ _ _=>ze imp
def gB (g:DS->Option D):DS->Option Bool:=fun δ=>(g δ).bind fun | .bool b=>some b | _=>none
theorem HN {K:PySem.W.Frag} {g:DS->Option D} {te:TE} (m:∀ σ H Q,tE K O g σ H Q->te σ H Q) {σ:St} {H:Hp} {Q:Bool->Hp->Prop}:tT K O (gB g) σ H Q->te σ H fun x H'=>∃ k,x=.bl k /\ Q k H':=fun ⟨U,A0,δ,b,R,ed,q⟩=>by
 obtain ⟨d,e1,e2⟩:=bind1 ed
 cases d with
 | bool c=>
   cases e2
   exact m σ H _ ⟨U,A0,δ,_,R,e1,fun v H' s h=>by cases h; exact ⟨_,rfl,q H' s⟩⟩
 | _=>cases e2
theorem aR {op:CmpOp} {f:D->D->Option D} (ho:gT X (compareOp op) r) (imp:i4 X.K r f) (ha:PE X a (gU X.K O ga)) (hb:PE X b (gU X.K O gb)) (hm:behindInMarks op b=false):PT X (.Compare a [op] [b] pos) (tT X.K O (gB (g2 f ga gb))):=(Fg ho ha hb hm).mono fun _ _ _=>HN fun _ _ _=>ze imp
end
def dI (g:Int->Int->D):D->D->Option D
 | .int a,.int b=>some (g a b)
 | _,_=>none
open Classical in
def HP (C:Int->Int->Prop) (g:Int->Int->D):D->D->Option D
 | .int a,.int b=>if C a b then some (g a b) else none
 | _,_=>none
open Classical in
theorem oO {C:Int->Int->Prop} {g:Int->Int->D} {a b:Int} (h:C a b):HP C g (.int a) (.int b)=some (g a b):=by
 show (if C a b then some (g a b) else none)=_
 rw [if_pos h]
theorem Mo {g:Int->Int->D} {a b:Int}:dI g (.int a) (.int b)=some (g a b):=rfl
theorem j3 {K:PySem.W.Frag} {g:Int->Int->Int}:i4 K (Bm fun i j=>.int (g i j)) (dI fun i j=>.int (g i j)):=by
 intro A H x y dx dy d Q al hx hy e q
 unfold dI at e
 split at e
 ·cases e
  exact ⟨_,_,hx.int,hy.int,q _ H (aA.refl H) (.int _)⟩
 ·cases e
theorem eK {K:PySem.W.Frag} {g:Int->Int->Bool}:i4 K (Bm fun i j=>.bl (g i j)) (dI fun i j=>.bool (g i j)):=by
 intro A H x y dx dy d Q al hx hy e q
 unfold dI at e
 split at e
 ·cases e
  exact ⟨_,_,hx.int,hy.int,q _ H (aA.refl H) (.bl _)⟩
 ·cases e
set_option tactic.hygienic true in
theorem aW {K:PySem.W.Frag} {C:Int->Int->Prop} {g:Int->Int->Int}:i4 K (rI C fun i j=>.int (g i j)) (HP C fun i j=>.int (g i j)):=by
 intro A H x y dx dy d Q al hx hy e q
 unfold HP at e
 split at e
 ·split at e
  ·rename_i c
   cases e
   exact ⟨_,_,hx.int,hy.int,c,q _ H (aA.refl H) (.int _)⟩
  ·cases e
 ·cases e
abbrev gP:D->D->Option D:=dI fun i j=>.int (i - j)
abbrev gv:D->D->Option D:=HP IntMulOk fun i j=>.int (i * j)
abbrev mY:D->D->Option D:=HP Cf fun i j=>.int (i.fdiv j)
abbrev eu:D->D->Option D:=HP (fun _ j=>j≠0) fun i j=>.int (i.fmod j)
abbrev oP:D->D->Option D:=HP IS fun i j=>.int (i ^ j.toNat)
abbrev Aj:D->D->Option D:=dI fun i j=>.bool (decide (i < j))
abbrev Pa:D->D->Option D:=dI fun i j=>.bool (decide (i<=j))
abbrev Bo:D->D->Option D:=dI fun i j=>.bool (decide (j < i))
abbrev Pb:D->D->Option D:=dI fun i j=>.bool (decide (j<=i))
def jD:D->D->Option D
 | .int a,.int b=>some (.bool (decide (a=b)))
 | a,b=>if (SeqAt.shaped a && SeqAt.shaped b)=true then some (.bool (PyData.eqv a b)) else none
def ES:D->D->Option D:=fun a b=>(jD a b).bind fun | .bool c=>some (.bool (!c)) | _=>none
set_option tactic.hygienic true in
theorem zf {a b d:D} (h:jD a b=some d):SeqAt.shaped a=true /\ SeqAt.shaped b=true /\ d=.bool (PyData.eqv a b):=by
 unfold jD at h
 split at h
 ·cases h
  refine ⟨by simp [SeqAt.shaped,PyData.canLay0,PyData.depth],by simp [SeqAt.shaped,PyData.canLay0,PyData.depth],?_⟩
  rw [PyData.eqv]; rfl
 ·split at h
  ·rename_i c
   rw [Bool.and_eq_true] at c
   cases h
   exact ⟨c.1,c.2,rfl⟩
  ·cases h
def Cv (K:PySem.W.Frag) (neg:Bool):R2:=fun x y H Q=>∃ d e,HD K H x d /\ HD K H y e /\ SeqAt.shaped d=true /\ SeqAt.shaped e=true /\ Q (.bl (if neg=true then !PyData.eqv d e else PyData.eqv d e)) H
section
variable {X:Cx}
theorem ez {k:Nat} (hr:cy k X.A):gT X (compareOp .Eq) (Cv X.K false):=by
 intro pins s σ H x y v u Q I rx ry h
 obtain ⟨d,e,h1,h2,s1,s2,q⟩:=h
 obtain ⟨as,r1⟩:=h1.reads I rx (bW s1)
 obtain ⟨bs,r2⟩:=h2.reads I ry (bW s2)
 exact eq_dataH r1 r2 s1 s2 hr.units ⟨.bl _,H,I,rfl,q⟩
theorem oQ {k:Nat} (hr:cy k X.A):gT X (compareOp .NotEq) (Cv X.K true):=by
 intro pins s σ H x y v u Q I rx ry h
 obtain ⟨d,e,h1,h2,s1,s2,q⟩:=h
 obtain ⟨as,r1⟩:=h1.reads I rx (bW s1)
 obtain ⟨bs,r2⟩:=h2.reads I ry (bW s2)
 exact ne_dataH r1 r2 s1 s2 hr.units ⟨.bl _,H,I,rfl,q⟩
end
theorem imp_eq {K:PySem.W.Frag}:i4 K (Cv K false) jD:=by
 intro A H x y dx dy d Q al hx hy e q
 obtain ⟨a,b,rfl⟩:=zf e
 exact ⟨dx,dy,hx.HK,hy.HK,a,b,q _ H (aA.refl H) (.bl _)⟩
theorem oR {K:PySem.W.Frag}:i4 K (Cv K true) ES:=by
 intro A H x y dx dy d Q al hx hy e q
 obtain ⟨c,e1,e2⟩:=bind1 e
 obtain ⟨a,b,rfl⟩:=zf e1
 cases e2
 exact ⟨dx,dy,hx.HK,hy.HK,a,b,q _ H (aA.refl H) (.bl _)⟩
def Cw (K:PySem.W.Frag):R2:=fun x y H Q=>∃ l b xs zs,x=.ref l /\ y=.ref b /\ wK K H l xs /\ wK K H b zs /\ xs.length + zs.length<=sizeLine /\ ∀ p,H p=none->Q (.ref p) (upd H p (.lst (xs ++ zs)))
theorem cw {X:Cx}:gT X (binaryOp .Add) (Cw X.K):=by
 intro pins s σ H x y v u Q I rx ry h
 obtain ⟨l,b,xs,zs,rfl,rfl,hH,hB,hz,q⟩:=h
 cases rx
 cases ry
 obtain ⟨z,its,n,r,e⟩:=I.UK hH
 obtain ⟨z2,qj,n2,r2,e2⟩:=I.UK hB
 have hl:=r.length
 have xf:=r2.length
 refine PySem.P.add_list e e2 ?_ (by rw [List.size_toArray,List.size_toArray]; omega)
 have ea:its.toArray ++ qj.toArray=(its ++ qj).toArray:=by simp
 rw [ea]
 exact ⟨.ref _,_,I.O4 (t':=s.toks) (r.append r2) (by rw [List.length_append]; omega),rfl,q _ I.fresh⟩
def eB:D->D->Option (List D)
 | .list a,.list b=>if a.length + b.length<=100000 then some (a ++ b) else none
 | _,_=>none
set_option tactic.hygienic true in
theorem cx {K:PySem.W.Frag}:Cu K (Cw K) eB:=by
 intro A H x y dx dy ds Q al hx hy e q
 unfold eB at e
 split at e
 ·split at e
  ·rename_i hz
   cases e
   obtain ⟨l,xs,rfl,h1,h2⟩:=hx.list
   obtain ⟨b,zs,rfl,h3,h4⟩:=hy.list
   have:=h2.len
   have:=h4.len
   exact ⟨l,b,xs,zs,rfl,rfl,h1,h3,small (by omega),fun p hp=>q p _ hp (h2.app h4)⟩
  ·cases e
 ·cases e
def JE:D->D->Option D
 | .int a,.int b=>some (.int (a + b))
 | .str a,.str b=>if a.length + b.length<=100000 then some (.str (a ++ b)) else none
 | .list a,.list b=>if a.length + b.length<=100000 then some (.list (a ++ b)) else none
 | .tuple a,.tuple b=>if a.length + b.length<=100000 /\ a≠[] then some (.tuple (a ++ b)) else none
 | _,_=>none
def zg (K:PySem.W.Frag):R2:=fun x y H Q=>Bm (fun i j=>.int (i + j)) x y H Q \/ (∃ i j,x=.str i /\ y=.str j /\ i.length + j.length<=sizeLine /\ Q (.str (i ++ j)) H) \/ Cw K x y H Q \/ Hy K x y H Q
theorem FL {X:Cx}:gT X (binaryOp .Add) (zg X.K):=IT.or (w8.or (cw.or Fq))
theorem HD.Pc {K:PySem.W.Frag} {A:List Addr} {H:Hp} {p:Addr} {ys:List V} {ds:List D} (al:Ls A H) (hp:H p=none) (h:cj K (wo H A) ys ds):HD K (wo (upd H p (.lst ys)) A) (.ref p) (.list ds):=by
 rw [Cs (al.free hp)]
 have hn:wo H A p=none:=by
  by_cases z:p∈A
  ·exact kf z
  ·rw [aY z]; exact hp
 exact .lst (.of aZ) (h.same (bG hn _))
theorem HD.r9 {K:PySem.W.Frag} {A:List Addr} {H:Hp} {p:Addr} {ys:List V} {ds:List D} (al:Ls A H) (hp:H p=none) (h:cj K (wo H A) ys ds):HD K (wo (upd H p (.tup ys)) A) (.ref p) (.tuple ds):=by
 rw [Cs (al.free hp)]
 have hn:wo H A p=none:=by
  by_cases z:p∈A
  ·exact kf z
  ·rw [aY z]; exact hp
 exact .tup (.inl aZ) (h.same (bG hn _))
set_option tactic.hygienic true in
theorem FN {K:PySem.W.Frag}:i4 K (zg K) JE:=by
 intro A H x y dx dy d Q al hx hy e q
 unfold JE at e
 split at e
 ·cases e
  exact .inl ⟨_,_,hx.int,hy.int,q _ H (aA.refl H) (.int _)⟩
 ·split at e
  ·cases e
   exact .inr (.inl ⟨_,_,hx.str,hy.str,small (by assumption),q _ H (aA.refl H) (.str _)⟩)
  ·cases e
 ·split at e
  ·rename_i hz
   cases e
   refine .inr (.inr (.inl (cx (K:=K) A H x y _ _ _ Q al hx hy (show (if _ then some _ else none)=some _ from if_pos hz) fun p ys hp h=>?_)))
   exact q _ _ (bG hp _) (HD.Pc al hp h)
  ·cases e
 ·split at e
  ·rename_i hz
   cases e
   have V5:=hx.fz
   obtain ⟨a,xs,rfl,h1,h2⟩:=hx.tuple
   obtain ⟨b,zs,rfl,h3,h4⟩:=hy.tuple
   have l2:=h2.len
   have l4:=h4.len
   refine .inr (.inr (.inr ⟨a,b,xs,zs,rfl,rfl,h1,h3,?_,small (by omega),fun z=>?_,fun z p hp=>?_⟩))
   ·intro z; subst z; cases h2; exact hz.2 rfl
   ·subst z; cases h4
    rw [List.append_nil] at q
    exact q _ H (aA.refl H) V5
   ·exact q _ _ (bG hp _) (HD.r9 al hp (h2.app h4))
  ·cases e
 ·cases e
def eX:D->D->Option D
 | .list ds,.int i=>nJ ds i
 | .tuple ds,.int i=>nJ ds i
 | .str z,.int i=>if z.length<=100000 then (nJ z.cps.toList i).map fun c=>.str ⟨#[c]⟩ else none
 | _,_=>none
theorem cj.nJ {K:PySem.W.Frag} {H:Hp} {xs:List V} {ds:List D} {i:Int} {d:D} (h:cj K H xs ds) (e:nJ ds i=some d):∃ v,L2.nJ xs i=some v /\ HD K H v d:=by
 unfold L2.nJ at e ⊢
 obtain ⟨j,e1,e2⟩:=bind1 e
 rw [h.len,e1]
 obtain ⟨x,hx,q⟩:=h.get e2
 exact ⟨x,hx,q⟩
set_option tactic.hygienic true in
theorem JF {K:PySem.W.Frag}:i4 K (UE K) eX:=by
 intro A H x y dx dy d Q al hx hy e q
 unfold eX at e
 split at e
 ·obtain ⟨l,xs,rfl,h1,h2⟩:=hx.list
  obtain ⟨v,e1,e2⟩:=h2.nJ e
  exact .inl ⟨l,xs,_,v,rfl,hy.int,h1.sq,e1,q _ H (aA.refl H) e2⟩
 ·obtain ⟨l,xs,rfl,h1,h2⟩:=hx.tuple
  obtain ⟨v,e1,e2⟩:=h2.nJ e
  exact .inr (.inl ⟨l,xs,_,v,rfl,hy.int,h1,e1,q _ H (aA.refl H) e2⟩)
 ·split at e
  ·rename_i z i hz
   cases ec:L2.nJ z.cps.toList i with
   | none=>rw [ec] at e; cases e
   | some c=>
     rw [ec] at e; cases e
     exact .inr (.inr ⟨z,i,c,hx.str,hy.int,small hz,ec,q _ H (aA.refl H) (.str _)⟩)
  ·cases e
 ·cases e
section
variable {X:Cx} {O:List Nat} {a b:Expr} {ga gb:DS->Option D} {pos:Pos}
theorem bP (ha:PE X a (gU X.K O ga)) (hb:PE X b (gU X.K O gb)) (hs:y8 b:=by exact fun _ _=>rfl):PE X (.Subscript a b pos) (tE X.K O (g2 eX ga gb)):=(L7 Jf ha hb hs).mono fun _ _ _=>ze JF
end
def g1 (f:D->Option D) (a:DS->Option D):DS->Option D:=fun δ=>(a δ).bind f
def Ak:D->Option D
 | .int a=>some (.int (-a))
 | _=>none
def Mp:D->Option D
 | .bool a=>some (.bool (!a))
 | _=>none
section
variable {X:Cx} {O:List Nat} {a b c:Expr} {ga gb:DS->Option D} {pos:Pos}
theorem sd (ha:PE X a (gU X.K O ga)):PE X (.UnaryOp .USub a pos) (tE X.K O (g1 Ak ga)):=(LY IW ha).mono fun σ H Q hh=>hh.e fun U A0 δ d R ed q=>by
 obtain ⟨x,e1,e2⟩:=bind1 ed
 cases x with
 | int i=>cases e2; exact ⟨U,A0,δ,_,R,e1,fun v H' s h=>⟨i,h.int,q _ H' s (.int _)⟩⟩
 | _=>cases e2
theorem JG (ha:PE X a (gU X.K O ga)):PE X (.UnaryOp .Not a pos) (tE X.K O (g1 Mp ga)):=(IH ha).mono fun σ H Q hh=>hh.e fun U A0 δ d R ed q=>by
 obtain ⟨x,e1,e2⟩:=bind1 ed
 cases x with
 | bool i=>cases e2; exact ⟨U,A0,δ,_,R,e1,fun v H' s h=>⟨i,h.bool,q _ H' s (.bl _)⟩⟩
 | _=>cases e2
def nM (a b:DS->Option D):DS->Option D:=fun δ=>(gB a δ).bind fun x=>if x=true then b δ else some (.bool false)
theorem FO {g:DS->Option D} {δ:DS} {b:Bool} (h:gB g δ=some b):g δ=some (.bool b):=by
 obtain ⟨d,e1,e2⟩:=bind1 h
 cases d with
 | bool c=>cases e2; exact e1
 | _=>cases e2
theorem xj {rest:List Expr} (ha:PE X a (tE X.K O ga)) (hb:PE X (.BoolOp .And (b :: rest) pos) (tE X.K O gb)):PE X (.BoolOp .And (a :: b :: rest) pos) (tE X.K O (nM ga gb)):=(IG ha hb).mono fun σ H Q hh=>hh.e fun U A0 δ d R ed q=>by
 obtain ⟨x,e1,e2⟩:=bind1 ed
 refine ⟨U,A0,δ,_,R,FO e1,fun v H' s h=>?_⟩
 cases h
 refine ⟨x,rfl,?_⟩
 cases x with
 | true=>rw [if_pos rfl] at e2 ⊢; exact ⟨U,A0,δ,d,R.same s,e2,fun v H2 s2 h2=>q v H2 (s.trans s2) h2⟩
 | false=>rw [if_neg Bool.false_ne_true] at e2 ⊢; cases e2; exact q _ H' s (.bl _)
def Al (a b:DS->Option Bool):DS->Option Bool:=fun δ=>(a δ).bind fun x=>if x=true then b δ else some false
def wL (a b:DS->Option Bool):DS->Option Bool:=fun δ=>(a δ).bind fun x=>if x=true then some true else b δ
def jE (a:DS->Option Bool):DS->Option Bool:=fun δ=>(a δ).map fun x=> !x
variable {ta tb:DS->Option Bool} {rest:List Expr}
theorem FP (ha:PT X a (tT X.K O ta)) (hb:PW X (.BoolOp .And (b :: rest) pos) (tT X.K O tb)):PW X (.BoolOp .And (a :: b :: rest) pos) (tT X.K O (Al ta tb)):=(pw_and ha hb).mono fun σ H Q hh=>hh.e fun U A0 δ d R ed q=>by
 obtain ⟨x,e1,e2⟩:=bind1 ed
 refine ⟨U,A0,δ,_,R,e1,fun H' s=>?_⟩
 cases x with
 | true=>rw [if_pos rfl] at e2 ⊢; exact ⟨U,A0,δ,d,R.same s,e2,fun H2 s2=>q H2 (s.trans s2)⟩
 | false=>rw [if_neg Bool.false_ne_true] at e2 ⊢; cases e2; exact q H' s
theorem i5 (ha:PT X a (tT X.K O ta)) (hb:PW X (.BoolOp .Or (b :: rest) pos) (tT X.K O tb)):PW X (.BoolOp .Or (a :: b :: rest) pos) (tT X.K O (wL ta tb)):=(pw_or ha hb).mono fun σ H Q hh=>hh.e fun U A0 δ d R ed q=>by
 obtain ⟨x,e1,e2⟩:=bind1 ed
 refine ⟨U,A0,δ,_,R,e1,fun H' s=>?_⟩
 cases x with
 | true=>rw [if_pos rfl] at e2 ⊢; cases e2; exact q H' s
 | false=>rw [if_neg Bool.false_ne_true] at e2 ⊢; exact ⟨U,A0,δ,d,R.same s,e2,fun H2 s2=>q H2 (s.trans s2)⟩
theorem dS (ha:PT X a (tT X.K O ta)):PT X (.UnaryOp .Not a pos) (tT X.K O (jE ta)):=(IF ha).mono fun σ H Q hh=>hh.e fun U A0 δ d R ed q=>by
 unfold jE at ed
 cases e:ta δ with
 | none=>rw [e] at ed; cases ed
 | some x=>rw [e] at ed; cases ed; exact ⟨U,A0,δ,x,R,e,fun H' s=>q H' s⟩
def Pd:D->Option Bool
 | .none=>some false
 | .bool b=>some b
 | .int i=>some (i != 0)
 | .str x=>if x.length<=100000 then some ((x.length:Int) != 0) else none
 | .list l=>some (!l.isEmpty)
 | .tuple l=>some (!l.isEmpty)
 | _=>none
def iJ (g:DS->Option D):DS->Option Bool:=fun δ=>(g δ).bind Pd
theorem oS {K:PySem.W.Frag} {H:Hp} {xs:List V} {ds:List D} (h:cj K H xs ds):xs.isEmpty=ds.isEmpty:=by cases h <;> rfl
theorem cD (ha:PE X a (gU X.K O ga)) (he:∀ whole,isTrue a X.env whole=(do let v <- whole; standAt a.pos; holding [v] (truthy v)):=by exact fun _=>rfl):PT X a (tT X.K O (iJ ga)):=(BS ha he).mono fun σ H Q hh=>hh.e fun U A0 δ k R ed q=>by
 obtain ⟨d,e1,e2⟩:=bind1 ed
 refine ⟨U,A0,δ,d,R,e1,fun v H' s h=>⟨k,?_,q H' s⟩⟩
 cases d with
 | none=>cases e2; rw [h.gM]; exact rfl
 | bool b=>cases e2; rw [h.bool]; exact rfl
 | int i=>cases e2; rw [h.int]; exact rfl
 | str x=>
   rw [h.str]
   have e3:(if x.length<=100000 then some ((x.length:Int) != 0) else none)=some k:=e2
   split at e3
   ·cases e3; exact ⟨small (by assumption),rfl⟩
   ·cases e3
 | list l=>
   cases e2
   obtain ⟨p,xs,rfl,h1,h2⟩:=h.list
   exact .inl ⟨xs,h1.sq,by rw [oS h2]⟩
 | tuple l=>
   cases e2
   obtain ⟨p,xs,rfl,h1,h2⟩:=h.tuple
   exact .inr (.inl ⟨xs,h1,by rw [oS h2]⟩)
 | dict _=>cases e2
def Cy (c:DS->Option Bool) (a b:DS->Option D):DS->Option D:=fun δ=>(c δ).bind fun x=>if x=true then a δ else b δ
theorem Cz (hc:PT X c (tT X.K O ta)) (ha:PE X a (tE X.K O ga)) (hb:PE X b (tE X.K O gb)):PE X (.IfExp c a b pos) (tE X.K O (Cy ta ga gb)):=(BF hc ha hb).mono fun σ H Q hh=>hh.e fun U A0 δ d R ed q=>by
 obtain ⟨x,e1,e2⟩:=bind1 ed
 refine ⟨U,A0,δ,_,R,e1,fun H' s=>?_⟩
 cases x with
 | true=>rw [if_pos rfl] at e2 ⊢; exact ⟨U,A0,δ,d,R.same s,e2,fun v H2 s2 h2=>q v H2 (s.trans s2) h2⟩
 | false=>rw [if_neg Bool.false_ne_true] at e2 ⊢; exact ⟨U,A0,δ,d,R.same s,e2,fun v H2 s2 h2=>q v H2 (s.trans s2) h2⟩
end
def ah:DS->Option (List D):=fun _=>some []
def aa (a:DS->Option D) (r:DS->Option (List D)):DS->Option (List D):=fun δ=>(a δ).bind fun x=>(r δ).bind fun xs=>some (x :: xs)
def bB (r:DS->Option (List D)):DS->Option D:=fun δ=>(r δ).bind fun xs=>if xs.length<=100000 then some (.tuple xs) else none
def bw (r:DS->Option (List D)):DS->Option (List D):=fun δ=>(r δ).bind fun xs=>if xs.length<=100000 then some xs else none
section
variable {X:Cx} {O:List Nat} {e:Expr} {es:List Expr} {ga:DS->Option D} {gr:DS->Option (List D)} {pos:Pos}
theorem ao:PA X [] (rh X.K O ah):=cn.mono fun σ H Q hh=>hh.e fun U A0 δ d R ed q=>by cases ed; exact q [] H (aA.refl H) .nil
theorem af (ha:PE X e (tE X.K O ga)) (hr:PA X es (rh X.K O gr)) (hs:starEach (e :: es) X.env=(false,eval e X.env) :: starEach es X.env:=by rfl):PA X (e :: es) (rh X.K O (aa ga gr)):=(bg ha hr hs).mono fun σ H Q hh=>hh.e fun U A0 δ ds R ed q=>by
 obtain ⟨x,xs,e1,e2,e3⟩:=zd ed
 cases e3
 exact ⟨U,A0,δ,x,R,e1,fun v H1 s1 h1=>⟨U,A0,δ,xs,R.same s1,e2,fun vs H2 s2 h2=>q _ H2 (s1.trans s2) (.cons (h1.same (cC s2)) h2)⟩⟩
theorem aJ:PA X [] (qo X.K O ah):=cn.mono fun σ H Q hh=>hh.e fun U A0 δ d R ed q=>by cases ed; exact q [] H (aA.refl H) .nil
theorem az (ha:PE X e (gU X.K O ga)) (hr:PA X es (qo X.K O gr)) (hs:starEach (e :: es) X.env=(false,eval e X.env) :: starEach es X.env:=by rfl):PA X (e :: es) (qo X.K O (aa ga gr)):=(bg ha hr hs).mono fun σ H Q hh=>hh.e fun U A0 δ ds R ed q=>by
 obtain ⟨x,xs,e1,e2,e3⟩:=zd ed
 cases e3
 exact ⟨U,A0,δ,x,R,e1,fun v H1 s1 h1=>⟨U,A0,δ,xs,R.same s1,e2,fun vs H2 s2 h2=>q _ H2 (s1.trans s2) (.cons (h1.same s2) h2)⟩⟩
set_option tactic.hygienic true in
theorem b8 {x1} (h:PA X es (rh X.K O gr)):PE X (.Tuple es x1 pos) (tE X.K O (bB gr)):=(BW h).mono fun σ H Q hh=>hh.e fun U A0 δ d R ed q=>by
 obtain ⟨xs,e1,e2⟩:=bind1 ed
 split at e2
 ·rename_i hz
  cases e2
  refine ⟨U,A0,δ,xs,R,e1,fun vs H' s h=>⟨by have:=h.len; exact small (by omega),fun p hp=>q _ _ (s.trans (bG hp _)) (HD.r9 (R.same s).al hp h)⟩⟩
 ·cases e2
set_option tactic.hygienic true in
theorem bX (h:PA X es (rh X.K O gr)):PE X (.List es pos) (tN X.K O (bw gr)):=(Ja h).mono fun σ H Q hh=>hh.e fun U A0 δ d R ed q=>by
 obtain ⟨xs,e1,e2⟩:=bind1 ed
 split at e2
 ·rename_i hz
  cases e2
  refine ⟨U,A0,δ,d,R,e1,fun vs H' s h=>⟨by have:=h.len; exact small (by omega),fun p hp=>ri s q p vs hp h⟩⟩
 ·cases e2
end
def gW (K:PySem.W.Frag) (n:Nat) (G:List D->Option D):Sp:=fun vs H Q _=>vs.length=n /\ ∃ A ds d,Ls A H /\ cj K (wo H A) vs ds /\ G ds=some d /\ ∀ v H',aA H H'->HD K (wo H' A) v d->Q v H'
def kY (K:PySem.W.Frag) (n:Nat) (G:List D->Option (List D)):Sp:=fun vs H Q _=>vs.length=n /\ ∃ A ds d,Ls A H /\ cj K (wo H A) vs ds /\ G ds=some d /\
 ∀ r ys H',aA H H'->H r=none->H' r=some (.lst ys)->cj K (wo H' (r :: A)) ys d->Q (.ref r) H'
def bQ (G:List D->Option D) (n:Nat) (g:DS->Option (List D)):DS->Option D:=fun δ=>(g δ).bind fun ds=>if ds.length=n then G ds else none
def bj (G:List D->Option (List D)) (n:Nat) (g:DS->Option (List D)):DS->Option (List D):=fun δ=>(g δ).bind fun ds=>if ds.length=n then G ds else none
section
variable {X:Cx} {O:List Nat} {e:Expr} {es:List Expr} {gr:DS->Option (List D)} {pos p:Pos} {n k kk:Nat} {x:Str} {ps:List Str}
set_option tactic.hygienic true in
theorem bR {G:List D->Option D} (F:Dn X.prog X.w X.K X.mg X.base k x ps (gW X.K n G)) (hr:cy kk X.A) (hk:k<=kk) (ha:PA X (e :: es) (rh X.K O gr)) (hg:Gl X x:=by rfl)
  (mT:(x == ("__debug__":Str))=false:=by decide) (he:starEach (e :: es) X.env=(false,eval e X.env) :: starEach es X.env:=by rfl) (iH:(backTo pos (starEach es X.env)).any (·.1)=false:=by rfl):
  PE X (.Call (.Name x p) (e :: es) [] pos) (tE X.K O (bQ G n gr)):=(Cj F hr hk ha hg mT he iH).mono fun σ H Q hh=>hh.e fun U A0 δ d R ed q=>by
 obtain ⟨ds,e1,e2⟩:=bind1 ed
 split at e2
 ·rename_i hn
  refine ⟨U,A0,δ,ds,R,e1,fun vs H' s h=>?_⟩
  show gW X.K n G (vs ++ []) H' Q E0
  rw [List.append_nil]
  exact ⟨by rw [h.len]; exact hn,U ++ A0,ds,d,(R.same s).al,h,e2,fun v H2 s2 h2=>q v H2 (s.trans s2) h2⟩
 ·cases e2
set_option tactic.hygienic true in
theorem bx {G:List D->Option (List D)} (F:Dn X.prog X.w X.K X.mg X.base k x ps (kY X.K n G)) (hr:cy kk X.A) (hk:k<=kk) (ha:PA X (e :: es) (rh X.K O gr)) (hg:Gl X x:=by rfl)
  (mT:(x == ("__debug__":Str))=false:=by decide) (he:starEach (e :: es) X.env=(false,eval e X.env) :: starEach es X.env:=by rfl) (iH:(backTo pos (starEach es X.env)).any (·.1)=false:=by rfl):
  PE X (.Call (.Name x p) (e :: es) [] pos) (tN X.K O (bj G n gr)):=(Cj F hr hk ha hg mT he iH).mono fun σ H Q hh=>hh.e fun U A0 δ d R ed q=>by
 obtain ⟨ds,e1,e2⟩:=bind1 ed
 split at e2
 ·rename_i hn
  refine ⟨U,A0,δ,ds,R,e1,fun vs H' s h=>?_⟩
  show kY X.K n G (vs ++ []) H' Q E0
  rw [List.append_nil]
  exact ⟨by rw [h.len]; exact hn,U ++ A0,ds,d,(R.same s).al,h,e2,fun r ys H2 s2 h0 h1 h2=>q r ys H2 (s.trans s2) (s.free h0) h1 h2⟩
 ·cases e2
end
def se (K:PySem.W.Frag) (r:List V->Hp->VK->Prop) (f:List D->Option D):Prop:=∀ (A:List Addr) (H:Hp) (vs:List V) (ds:List D) (d:D) (Q:VK),Ls A H->uP K A H vs ds->f ds=some d->(∀ v H',aA H H'->HD K (wo H' A) v d->Q v H')->r vs H Q
def CA (K:PySem.W.Frag) (r:List V->Hp->VK->Prop) (f:List D->Option (List D)):Prop:=∀ (A:List Addr) (H:Hp) (vs:List V) (ds:List D) (d:List D) (Q:VK),Ls A H->uP K A H vs ds->f ds=some d->
 (∀ p ys,H p=none->cj K (wo H A) ys d->Q (.ref p) (upd H p (.lst ys)))->r vs H Q
def fI (f:List D->Option D) (g:DS->Option (List D)):DS->Option D:=fun δ=>(g δ).bind f
def lq (f:List D->Option (List D)) (g:DS->Option (List D)):DS->Option (List D):=fun δ=>(g δ).bind f
section
variable {X:Cx} {O:List Nat} {e:Expr} {es:List Expr} {gr:DS->Option (List D)} {pos p:Pos} {x:Str} {r:List V->Hp->VK->Prop} {id T:String}
theorem HQ {K:PySem.W.Frag} {f:List D->Option D} (imp:se K r f) {σ:St} {H:Hp} {Q:VK}:tE K O (fI f gr) σ H Q->NX r (qo K O gr) σ H Q:=fun ⟨U,A0,δ,d,R,ed,q⟩=>by
 obtain ⟨ds,e1,e2⟩:=bind1 ed
 exact ⟨U,A0,δ,ds,R,e1,fun vs H' s h=>imp _ H' vs ds d Q (R.same s).al h e2 fun v H2 s2 h2=>q v H2 (s.trans s2) h2⟩
theorem Mq {K:PySem.W.Frag} {f:List D->Option (List D)} (imp:CA K r f) {σ:St} {H:Hp} {Q:VK}:tN K O (lq f gr) σ H Q->NX r (qo K O gr) σ H Q:=fun ⟨U,A0,δ,d,R,ed,q⟩=>by
 obtain ⟨ds,e1,e2⟩:=bind1 ed
 exact ⟨U,A0,δ,ds,R,e1,fun vs H' s h=>imp _ H' vs ds d Q (R.same s).al h e2 (ri s q)⟩
theorem aT {f:List D->Option D} (hc:ee X (.builtin id) r) (imp:se X.K r f) (hg:Gl X x) (hm:X.mg x=none) (hv:bootBuiltins x=some (.builtin id)) (ha:PA X (e :: es) (qo X.K O gr)) (hn:x≠"__name__":=by decide) (mT:(x == ("__debug__":Str))=false:=by decide)
  (he:starEach (e :: es) X.env=(false,eval e X.env) :: starEach es X.env:=by rfl) (iH:(backTo pos (starEach es X.env)).any (·.1)=false:=by rfl):PE X (.Call (.Name x p) (e :: es) [] pos) (tE X.K O (fI f gr)):=
 (lV hc hg hm hv ha hn mT he iH).mono fun _ _ _=>HQ imp
theorem ji {f:List D->Option D} (hc:ee X (.type T) r) (imp:se X.K r f) (hg:Gl X x) (hm:X.mg x=none) (hv:bootBuiltins x=some (.type T)) (ha:PA X (e :: es) (qo X.K O gr)) (hn:x≠"__name__":=by decide) (mT:(x == ("__debug__":Str))=false:=by decide)
  (he:starEach (e :: es) X.env=(false,eval e X.env) :: starEach es X.env:=by rfl) (iH:(backTo pos (starEach es X.env)).any (·.1)=false:=by rfl):PE X (.Call (.Name x p) (e :: es) [] pos) (tE X.K O (fI f gr)):=
 (mU hc hg hm hv ha hn mT he iH).mono fun _ _ _=>HQ imp
theorem fM {f:List D->Option (List D)} (hc:ee X (.type T) r) (imp:CA X.K r f) (hg:Gl X x) (hm:X.mg x=none) (hv:bootBuiltins x=some (.type T)) (ha:PA X (e :: es) (qo X.K O gr)) (hn:x≠"__name__":=by decide) (mT:(x == ("__debug__":Str))=false:=by decide)
  (he:starEach (e :: es) X.env=(false,eval e X.env) :: starEach es X.env:=by rfl) (iH:(backTo pos (starEach es X.env)).any (·.1)=false:=by rfl):PE X (.Call (.Name x p) (e :: es) [] pos) (tN X.K O (lq f gr)):=
 (mU hc hg hm hv ha hn mT he iH).mono fun _ _ _=>Mq imp
end
theorem CC {K:PySem.W.Frag} {A:List Addr} {H:Hp} {vs:List V} {d:D} (h:uP K A H vs [d]):∃ v,vs=[v] /\ fY K A H v d:=by
 unfold uP at h
 cases h with
 | cons a t=>cases t; exact ⟨_,rfl,a⟩
theorem V6 {K:PySem.W.Frag} {A:List Addr} {H:Hp} {vs:List V} {d e:D} (h:uP K A H vs [d,e]):∃ v u,vs=[v,u] /\ fY K A H v d /\ fY K A H u e:=by
 unfold uP at h
 cases h with
 | cons a t=>cases t with
   | cons b t=>cases t; exact ⟨_,_,rfl,a,b⟩
def df:List D->Option D
 | [.list l]=>some (.int l.length)
 | [.tuple l]=>some (.int l.length)
 | [.str z]=>if z.length<=100000 then some (.int z.length) else none
 | _=>none
theorem aX {X:Cx}:ee X (.builtin "len") (fun xs H Q=>(∃ p ys,xs=[.ref p] /\ (gN X.K H p ys \/ jB X.K H p ys) /\ Q (.int ys.length) H) \/ ∃ z,xs=[.str z] /\ z.length<=sizeLine /\ Q (.int z.length) H):=rX.or rY
theorem bS {K:PySem.W.Frag}:se K (fun xs H Q=>(∃ p ys,xs=[.ref p] /\ (gN K H p ys \/ jB K H p ys) /\ Q (.int ys.length) H) \/ ∃ z,xs=[.str z] /\ z.length<=sizeLine /\ Q (.int z.length) H) df:=by
 intro A H vs ds d Q al h e q
 unfold df at e
 split at e
 ·cases e
  obtain ⟨v,rfl,h1⟩:=CC h
  clear h
  have h:=h1
  obtain ⟨p,xs,rfl,h1,h2⟩:=h.list
  refine .inl ⟨p,xs,rfl,.inl h1.sq,?_⟩
  rw [h2.len]
  exact q _ H (aA.refl H) (.int _)
 ·cases e
  obtain ⟨v,rfl,h1⟩:=CC h
  clear h
  have h:=h1
  obtain ⟨p,xs,rfl,h1,h2⟩:=h.tuple
  refine .inl ⟨p,xs,rfl,.inr h1,?_⟩
  rw [h2.len]
  exact q _ H (aA.refl H) (.int _)
 ·split at e
  ·cases e
   obtain ⟨v,rfl,h1⟩:=CC h
   exact .inr ⟨_,by rw [h1.str],small (by assumption),q _ H (aA.refl H) (.int _)⟩
  ·cases e
 ·cases e
def CD:List D->Option D
 | [.int i]=>some (.int (if i < 0 then -i else i))
 | _=>none
theorem FQ {K:PySem.W.Frag}:se K (fun xs H Q=>∃ i,xs=[.int i] /\ Q (.int (if i < 0 then -i else i)) H) CD:=by
 intro A H vs ds d Q al h e q
 unfold CD at e
 split at e
 ·cases e
  obtain ⟨v,rfl,h1⟩:=CC h
  clear h
  have h:=h1
  exact ⟨_,by rw [h.int],q _ H (aA.refl H) (.int _)⟩
 ·cases e
def rj:List D->Option D
 | [.int i,.int j]=>some (.int (if j > i then j else i))
 | _=>none
theorem zh {K:PySem.W.Frag}:se K (fun xs H Q=>∃ i j,xs=[.int i,.int j] /\ Q (.int (if j > i then j else i)) H) rj:=by
 intro A H vs ds d Q al h e q
 unfold rj at e
 split at e
 ·cases e
  obtain ⟨v,u,rfl,h1,h'⟩:=V6 h
  clear h
  have h:=h1
  exact ⟨_,_,by rw [h.int,h'.int],q _ H (aA.refl H) (.int _)⟩
 ·cases e
def FR:List D->Option D
 | [.int i]=>some (.int i)
 | [.bool k]=>some (.int (if k then 1 else 0))
 | _=>none
theorem FT {K:PySem.W.Frag}:se K (fun xs H Q=>(∃ i,xs=[.int i] /\ Q (.int i) H) \/ ∃ k,xs=[.bl k] /\ Q (.int (if k then 1 else 0)) H) FR:=by
 intro A H vs ds d Q al h e q
 unfold FR at e
 split at e
 ·cases e
  obtain ⟨v,rfl,h1⟩:=CC h
  clear h
  have h:=h1
  exact .inl ⟨_,by rw [h.int],q _ H (aA.refl H) (.int _)⟩
 ·cases e
  obtain ⟨v,rfl,h1⟩:=CC h
  clear h
  have h:=h1
  exact .inr ⟨_,by rw [h.bool],q _ H (aA.refl H) (.int _)⟩
 ·cases e
def fA:List D->Option (List D)
 | [.list l]=>some l
 | [.tuple l]=>some l
 | _=>none
theorem jk {K:PySem.W.Frag}:CA K (fun xs H Q=>∃ p ys,xs=[.ref p] /\ (gN K H p ys \/ jB K H p ys) /\ ∀ l,H l=none->Q (.ref l) (upd H l (.lst ys))) fA:=by
 intro A H vs ds d Q al h e q
 unfold fA at e
 split at e
 ·cases e
  obtain ⟨v,rfl,h1⟩:=CC h
  clear h
  have h:=h1
  obtain ⟨p,xs,rfl,h1,h2⟩:=h.list
  exact ⟨p,xs,rfl,.inl h1.sq,fun l hl=>q l xs hl h2⟩
 ·cases e
  obtain ⟨v,rfl,h1⟩:=CC h
  clear h
  have h:=h1
  obtain ⟨p,xs,rfl,h1,h2⟩:=h.tuple
  exact ⟨p,xs,rfl,.inr h1,fun l hl=>q l xs hl h2⟩
 ·cases e
def jl:List D->Option D
 | [.list l]=>some (.tuple l)
 | [.tuple l]=>some (.tuple l)
 | _=>none
theorem kN {K:PySem.W.Frag}:se K (fun xs H Q=>∃ p ys,xs=[.ref p] /\ ((gN K H p ys /\ ∀ l,H l=none->Q (.ref l) (upd H l (.tup ys))) \/ (jB K H p ys /\ Q (.ref p) H))) jl:=by
 intro A H vs ds d Q al h e q
 unfold jl at e
 split at e
 ·cases e
  obtain ⟨v,rfl,h1⟩:=CC h
  clear h
  have h:=h1
  obtain ⟨p,xs,rfl,h1,h2⟩:=h.list
  exact ⟨p,xs,rfl,.inl ⟨h1.sq,fun l hl=>q _ _ (bG hl _) (HD.r9 al hl h2)⟩⟩
 ·cases e
  obtain ⟨v,rfl,h1⟩:=CC h
  clear h
  have h:=h1
  have h':=h.fz
  obtain ⟨p,xs,rfl,h1,h2⟩:=h.tuple
  exact ⟨p,xs,rfl,.inr ⟨h1,q _ H (aA.refl H) h'⟩⟩
 ·cases e
def tyName:D->String
 | .none=>"NoneType"
 | .bool _=>"bool"
 | .int _=>"int"
 | .str _=>"str"
 | .list _=>"list"
 | .tuple _=>"tuple"
 | .dict _=>"dict"
theorem JH {K:PySem.W.Frag} {t n:String} {b:Bool} (h:(Value.type t == Value.type n)=false) (h2:PySem.W.kitMeta n=true) (h3:(fastBuiltinMro t).map (·.contains (Value.type n))=some b):PySem.W.kitOne K (.type t) (.type n)=some b:=by
 unfold PySem.W.kitOne PySem.W.kitCls
 rw [h,if_neg (by decide)]
 show (if PySem.W.kitMeta n=true then PySem.W.subIn K (.type t) (.type n) else none)=some b
 rw [if_pos h2]
 exact h3
def eD:List String:=["int","bool","str","list","tuple","NoneType"]
def Pe (n:String):List D->Option D
 | [d]=>if tyName d∈eD /\ n∈eD then some (.bool (decide (tyName d=n) || (decide (tyName d="bool") && decide (n="int")))) else none
 | _=>none
theorem FU {K:PySem.W.Frag} {t n:String} (ht:t∈eD) (hn:n∈eD):PySem.W.kitOne K (.type t) (.type n)=some (decide (t=n) || (decide (t="bool") && decide (n="int"))):=by
 by_cases h:t=n
 ·subst h
  rw [Ci]; simp
 ·have all:∀ t∈eD,∀ n∈eD,t≠n->(Value.type t == Value.type n)=false /\ PySem.W.kitMeta n=true /\ (fastBuiltinMro t).map (·.contains (Value.type n))=some (decide (t=n) || (decide (t="bool") && decide (n="int"))):=by decide +kernel
  obtain ⟨h1,h2,h3⟩:=all t ht n hn h
  exact JH h1 h2 h3
theorem fY.ty {K:PySem.W.Frag} {A:List Addr} {H:Hp} {v:V} {d:D} (h:fY K A H v d) (hn:tyName d∈eD):UJ K H v (tyName d):=by
 cases d with
 | none=>rw [h.gM]; exact .inl .gM
 | bool b=>rw [h.bool]; exact .inl (.bl b)
 | int i=>rw [h.int]; exact .inl (.int i)
 | str x=>rw [h.str]; exact .inl (.str x)
 | list l=>obtain ⟨p,xs,rfl,h1,_⟩:=h.list; exact .inr (.inr ⟨p,xs,rfl,h1.sq,rfl⟩)
 | tuple l=>obtain ⟨p,xs,rfl,h1,_⟩:=h.tuple; exact .inr (.inl ⟨p,xs,rfl,h1,rfl⟩)
 | dict l=>simp [tyName,eD] at hn
section
variable {X:Cx} {O:List Nat} {e:Expr} {ga:DS->Option D} {pos p p2:Pos}
def xl (n:String) (g:DS->Option D):DS->Option D:=fun δ=>(g δ).bind fun d=>Pe n [d]
set_option tactic.hygienic true in
theorem mZ {n:Str} (T:String) (hB:X.mg "isinstance"=none) (ha:PE X e (gU X.K O ga)) (ht:PE X (.Name n p2) (tC (.ty T))) (hg:Gl X "isinstance":=by rfl)
  (he:starEach [e,.Name n p2] X.env=(false,eval e X.env) :: starEach [.Name n p2] X.env:=by rfl) (CF:starEach [.Name n p2] X.env=(false,eval (.Name n p2) X.env) :: starEach [] X.env:=by rfl) (iH:(backTo pos (starEach [.Name n p2] X.env)).any (·.1)=false:=by rfl):
  PE X (.Call (.Name "isinstance" p) [e,.Name n p2] [] pos) (tE X.K O (xl T ga)):=
 (lV Cg hg hB kX (bg ha (bg ht cn CF) he) (by decide) (by decide) he iH).mono fun σ H Q hh=>hh.e fun U A0 δ d R ed q=>by
  obtain ⟨x,e1,e2⟩:=bind1 ed
  have e3:(if tyName x∈eD /\ T∈eD then some (PyData.bool (decide (tyName x=T) || (decide (tyName x="bool") && decide (T="int")))) else none)=some d:=e2
  split at e3
  ·rename_i hz
   cases e3
   refine ⟨U,A0,δ,x,R,e1,fun v H' s h=>?_⟩
   exact ⟨v,T,tyName x,_,rfl,h.ty hz.1,FU hz.1 hz.2,q _ H' s (.bl _)⟩
  ·cases e3
end
def fB (g:DS->Option D):DS->Option (Option Int):=fun δ=>(g δ).bind fun | .int i=>some (some i) | _=>none
def gX:DS->Option (Option Int):=fun _=>some none
def Lg (K:PySem.W.Frag) (O:List Nat) (g:DS->Option (Option Int)):TO:=fun σ H Q=>∃ U A0 δ d,Rel K O U A0 σ δ H /\ g δ=some d /\ ∀ H',aA H H'->Q d H'
theorem Lg.e {K:PySem.W.Frag} {O:List Nat} {g:DS->Option (Option Int)}  {σ:_} {H:_} {Q:_} {GG:Prop} (hh:Lg K O g σ H Q) (kk:∀ U A0 δ d,(Rel K O U A0 σ δ H)->(g δ=some d)->(∀ H',aA H H'->Q d H')->GG):GG:=by obtain ⟨U,A0,δ,d,x0,x1,x2⟩:=hh; exact kk U A0 δ d x0 x1 x2
def cutD (xs:List D) (lo hi:Option Int):List D:=(xs.drop (HT.qf xs.length 0 lo)).take (HT.qf xs.length xs.length hi - HT.qf xs.length 0 lo)
def m7 (a:DS->Option D) (lo hi:DS->Option (Option Int)):DS->Option (List D):=fun δ=>(a δ).bind fun x=>(lo δ).bind fun l=>(hi δ).bind fun h=>match x with
 | .list ds=>some (cutD ds l h)
 | _=>none
section
variable {X:Cx} {O:List Nat} {e:Expr} {lo hi:Option Expr} {ga:DS->Option D} {gl gh:DS->Option (Option Int)} {pos p2:Pos}
theorem oU:PO X none (Lg X.K O gX):=Fo.mono fun σ H Q hh=>hh.e fun U A0 δ d R ed q=>by cases ed; exact q H (aA.refl H)
theorem iq (h:PE X e (gU X.K O ga)):PO X (some e) (Lg X.K O (fB ga)):=(Fp h).mono fun σ H Q hh=>hh.e fun U A0 δ d R ed q=>by
 obtain ⟨x,e1,e2⟩:=bind1 ed
 cases x with
 | int i=>cases e2; exact ⟨U,A0,δ,_,R,e1,fun v H' s h=>⟨i,h.int,q H' s⟩⟩
 | _=>cases e2
theorem oV (ha:PE X e (gU X.K O ga)) (hl:PO X lo (Lg X.K O gl)) (hh:PO X hi (Lg X.K O gh)):PE X (.Subscript e (.Slice lo hi none p2) pos) (tN X.K O (m7 ga gl gh)):=(B1 Fv ha hl hh).mono fun σ H Q hh=>hh.e fun U A0 δ d R ed q=>by
 obtain ⟨x,e1,e2⟩:=bind1 ed
 obtain ⟨l,e3,e4⟩:=bind1 e2
 obtain ⟨h,e5,e6⟩:=bind1 e4
 cases x with
 | list ds=>
   cases e6
   refine ⟨U,A0,δ,_,R,e1,fun v H1 s1 h1=>⟨U,A0,δ,l,R.same s1,e3,fun H2 s2=>⟨U,A0,δ,h,R.same (s1.trans s2),e5,fun H3 s3=>?_⟩⟩⟩
   obtain ⟨p,xs,rfl,r1,r2⟩:=(h1.same (s2.trans s3)).list
   refine ⟨p,xs,rfl,r1.sq,fun r hr=>ri ((s1.trans s2).trans s3) q r _ hr ?_⟩
   unfold B2 cutD
   rw [r2.len]
   exact (r2.HJ _).HI _
 | _=>cases e6
end
def aG (a b:DS->Option Res):DS->Option Res:=fun δ=>(a δ).bind fun | .nx δ'=>b δ' | r=>some r
def bC:DS->Option Res:=fun δ=>some (.nx δ)
def iI (c:DS->Option Bool) (a b:DS->Option Res):DS->Option Res:=fun δ=>(c δ).bind fun x=>if x=true then a δ else b δ
def a9 (i:Nat) (g:DS->Option D):DS->Option Res:=fun δ=>(g δ).bind fun d=>some (.nx (δ.set i (some d)))
def l9 (i:Nat) (g:DS->Option (List D)):DS->Option Res:=fun δ=>(g δ).bind fun d=>some (.nx (δ.set i (some (.list d))))
def bT (g:DS->Option D):DS->Option Res:=fun δ=>(g δ).bind fun d=>some (.rt d)
def zi (g:DS->Option D):DS->Option Res:=fun δ=>(g δ).bind fun _=>some (.nx δ)
section
variable {X:Cx} {O:List Nat} {fr:Fr} {xk:Str->Hp->Prop} {st:Stmt} {rest a b:List Stmt} {ga gb:DS->Option Res} {gc:DS->Option Bool} {ge:DS->Option D} {gl:DS->Option (List D)} {e c:Expr} {pos:Pos}
theorem ar (h1:PS X st (tS X.K O fr ga)) (h2:jy X rest (tS X.K O fr gb)):jy X (st :: rest) (tS X.K O fr (aG ga gb)):=(oF h1 h2).mono fun E σ H hh=>hh.e fun H0 U A0 δ r R F ed P=>by
 obtain ⟨r1,e1,e2⟩:=bind1 ed
 cases r1 with
 | nx δ'=>exact ⟨H0,U,A0,δ,.nx δ',R,F,e1,fun U' cb H' R' F'=>⟨H0,U',A0,δ',r,R',F',e2,P⟩⟩
 | rt d=>cases e2; exact ⟨H0,U,A0,δ,_,R,F,e1,P⟩
 | bk d=>cases e2; exact ⟨H0,U,A0,δ,_,R,F,e1,P⟩
 | ct d=>cases e2; exact ⟨H0,U,A0,δ,_,R,F,e1,P⟩
theorem av (h1:PS X st (tS X.K O fr ga)):jy X [st] (tS X.K O fr ga):=E9 h1
theorem bU:jy X [] (tS X.K O fr bC):=y0.mono fun E σ H hh=>hh.e fun H0 U A0 δ r R F ed P=>by cases ed; exact P U σ H R F
theorem oW:PS X st (tS X.K O fr fun _=>none):=BH.mono fun E σ H hh=>hh.e fun H0 U A0 δ r R F ed P=>by cases ed
theorem cQ (hc:PT X c (tT X.K O gc)) (ha:jy X a (tS X.K O fr ga)) (hb:jy X b (tS X.K O fr gb)):PS X (.If c a b pos) (tS X.K O fr (iI gc ga gb)):=(LP hc ha hb).mono fun E σ H hh=>hh.e fun H0 U A0 δ r R F ed P=>by
 obtain ⟨x,e1,e2⟩:=bind1 ed
 refine ⟨U,A0,δ,x,R,e1,fun H' s=>?_⟩
 cases x with
 | true=>rw [if_pos rfl] at e2 ⊢; exact ⟨H0,U,A0,δ,r,R.same s,F.grow s,e2,P⟩
 | false=>rw [if_neg Bool.false_ne_true] at e2 ⊢; exact ⟨H0,U,A0,δ,r,R.same s,F.grow s,e2,P⟩
theorem aM {i:Nat} (h:PS X st (uC (tE X.K O ge) (kW i))) (hi:i∉O:=by decide):PS X st (tS X.K O fr (a9 i ge)):=h.mono fun E σ H hh=>hh.e fun H0 U A0 δ r R F ed P=>by
 obtain ⟨d,e1,e2⟩:=bind1 ed
 cases e2
 exact ⟨U,A0,δ,d,R,e1,fun v H' s hv=>P U _ H' ((R.same s).set hi hv) (F.grow s)⟩
theorem iP {i:Nat} (h:PS X st (uC (tN X.K O gl) (kW i))) (hi:i∈O:=by decide):PS X st (tS X.K O fr (l9 i gl)):=h.mono fun E σ H hh=>hh.e fun H0 U A0 δ r R F ed P=>by
 obtain ⟨d,e1,e2⟩:=bind1 ed
 cases e2
 exact ⟨U,A0,δ,d,R,e1,fun r ys H' s hr h1 h2=>P (r :: U) _ H' (R.O9 s hr h1 h2 hi) (F.more s hr)⟩
theorem FV (h:PS X st (uB (tE X.K O ge))):PS X st (tS X.K O fr (zi ge)):=h.mono fun E σ H hh=>hh.e fun H0 U A0 δ r R F ed P=>by
 obtain ⟨d,e1,e2⟩:=bind1 ed
 cases e2
 exact ⟨U,A0,δ,d,R,e1,fun v H' s hv=>P U σ H' (R.same s) (F.grow s)⟩
theorem bH (h:PE X e (tE X.K O ge)):PS X (.Return (some e) pos) (tS X.K O (false,xk) (bT ge)):=(oG h).mono fun E σ H hh=>hh.e fun H0 U A0 δ r R F ed P=>by
 obtain ⟨d,e1,e2⟩:=bind1 ed
 cases e2
 refine ⟨U,A0,δ,d,R,e1,fun v H' s hv=>P.1 v H' ?_⟩
 unfold kh
 rw [if_neg Bool.false_ne_true]
 exact ⟨F.same.trans s,hv.same (kg fun a ha=>List.mem_append_right _ ha)⟩
theorem sf (h:PE X e (tN X.K O gl)):PS X (.Return (some e) pos) (tS X.K O (true,xk) (bT (ax gl))):=(oG h).mono fun E σ H hh=>hh.e fun H0 U A0 δ r R F ed P=>by
 obtain ⟨d,e1,e2⟩:=bind1 ed
 cases e2
 unfold ax at e1
 cases eg:gl δ with
 | none=>rw [eg] at e1; cases e1
 | some l=>
   rw [eg] at e1; cases e1
   refine ⟨U,A0,δ,l,R,eg,fun r ys H' s hr h1 h2=>P.1 (.ref r) H' ?_⟩
   unfold kh
   rw [if_pos rfl]
   refine ⟨r,_,rfl,F.same.trans s,F.same.free hr,h1,.lst (h2.same (kg fun a ha=>?_))⟩
   rcases List.mem_cons.mp ha with z | z
   ·subst z; simp
   ·exact List.mem_cons_of_mem _ (List.mem_append_right _ z)
theorem eY {i:Nat} (h:PE X e (uz i)) (hi:i∈O:=by decide):PS X (.Return (some e) pos) (tS X.K O fr (bT (ae i))):=(oG h).mono fun E σ H hh=>hh.e fun H0 U A0 δ r R F ed P=>by
 obtain ⟨d,e1,e2⟩:=bind1 ed
 cases e2
 obtain ⟨l,o,hl,hU,h1,h2⟩:=R.ow i d hi (join_some e1)
 refine ⟨.ref l,hl,P.1 (.ref l) H ?_⟩
 unfold kh
 split
 ·refine ⟨l,o,rfl,F.same,F.new l hU,h1,h2.same (kg fun a ha=>?_)⟩
  rcases List.mem_cons.mp ha with z | z
  ·subst z; exact List.mem_append_left _ hU
  ·exact List.mem_append_right _ z
 ·refine ⟨F.same,(h2.same (kg fun a ha=>List.mem_append_right _ ha)).hd ?_⟩
  rw [aY (F.out hU)]; exact h1
def uQ (i:Nat) (g:DS->Option D):DS->Option Res:=fun δ=>(ae i δ).bind fun x=>(g δ).bind fun d=>match x with
 | .list ds=>if ds.length < 100000 then some (.nx (δ.set i (some (.list (ds ++ [d]))))) else none
 | _=>none
set_option tactic.hygienic true in
theorem jm {i:Nat} (h:PS X st (uB (O3 X.K "list" y9 (uz i) (BV (tE X.K O ge) IZ)))) (hi:i∈O:=by decide):PS X st (tS X.K O fr (uQ i ge)):=h.mono fun E σ H hh=>hh.e fun H0 U A0 δ r R F ed P=>by
 obtain ⟨x,e1,e2⟩:=bind1 ed
 obtain ⟨d,e3,e4⟩:=bind1 e2
 rcases R.UN i x hi (join_some e1) with ⟨l,ys,ds,hl,rfl,hU,h1,h2⟩ | ⟨kds,rfl⟩
 rotate_left
 ·(exfalso; simp_all; done)
 simp only at e4
 split at e4
 ·rename_i hz
  cases e4
  refine ⟨.ref l,hl,.inl ⟨rfl,ys,gN.of h1⟩,U,A0,δ,d,R,e3,fun v H' s hv=>?_⟩
  have Mr:=s _ _ h1
  have Pf:=h2.same (cC (A:=U ++ A0) s)
  have hlen:=h2.len
  refine ⟨l,ys,v,rfl,rfl,Mr,Ck (by omega),?_⟩
  exact P U σ _ ((R.same s).put hi hl hU (Pf.app (.cons hv .nil)) ⟨_,join_some e1⟩) ((F.grow s).put hU _)
 ·cases e4
end
def si (c:DS->Option Bool) (b:DS->Option Res):Nat->DS->Option Res
 | 0,_=>none
 | n + 1,δ=>(c δ).bind fun x=>if x=true then (b δ).bind (fun | .nx δ'=>si c b n δ' | .ct δ'=>si c b n δ' | .bk δ'=>some (.nx δ') | .rt d=>some (.rt d)) else some (.nx δ)
theorem xm {c:DS->Option Bool} {b:DS->Option Res}:∀ {n:Nat} {δ:DS} {r:Res},si c b n δ=some r->si c b (n + 1) δ=some r
 | 0,_,_,h=>by cases h
 | n + 1,δ,r,h=>by
   rw [si] at h ⊢
   obtain ⟨x,e1,e2⟩:=bind1 h
   rw [e1,Option.bind_some]
   cases x with
   | false=>exact e2
   | true=>
     rw [if_pos rfl] at e2 ⊢
     obtain ⟨q,e3,e4⟩:=bind1 e2
     rw [e3,Option.bind_some]
     cases q with
     | nx δ'=>exact xm e4
     | ct δ'=>exact xm e4
     | bk _=>exact e4
     | rt _=>exact e4
theorem CG {c:DS->Option Bool} {b:DS->Option Res} {n m:Nat} {δ:DS} {r:Res} (h:si c b n δ=some r) (hm:n<=m):si c b m δ=some r:=by
 induction hm with
 | refl=>exact h
 | step _ ih=>exact xm ih
open Classical in
def ir (c:DS->Option Bool) (b:DS->Option Res):DS->Option Res:=fun δ=>if h:∃ p:Nat×Res,si c b p.1 δ=some p.2 then some (choose h).2 else none
set_option tactic.hygienic true in
theorem uR {c:DS->Option Bool} {b:DS->Option Res} {δ:DS} {r:Res} (h:ir c b δ=some r):∃ n,si c b n δ=some r:=by
 unfold ir at h
 split at h
 ·rename_i hp
  cases h
  exact ⟨_,Classical.choose_spec hp⟩
 ·cases h
theorem Am {c:DS->Option Bool} {b:DS->Option Res} {n:Nat} {δ:DS} {r:Res} (h:si c b n δ=some r):ir c b δ=some r:=by
 have hp:∃ p:Nat×Res,si c b p.1 δ=some p.2:=⟨(n,r),h⟩
 unfold ir
 rw [dif_pos hp]
 have h2:=Classical.choose_spec hp
 have a1:=CG h (Nat.le_max_left n (Classical.choose hp).1)
 have a2:=CG h2 (Nat.le_max_right n (Classical.choose hp).1)
 rw [a1] at a2
 exact a2.symm
theorem rk {c:DS->Option Bool} {b:DS->Option Res} (W:Nat->DS->Prop) (r:DS->Res->Prop) (m:Nat) (δ:DS) (h:W m δ)
  (hs:∀ m δ,W m δ->(c δ=some false /\ r δ (.nx δ)) \/ (c δ=some true /\ ((∃ δ' m',(b δ=some (.nx δ') \/ b δ=some (.ct δ')) /\ m' < m /\ W m' δ' /\ ∀ q,r δ' q->r δ q) \/ (∃ δ',b δ=some (.bk δ') /\ r δ (.nx δ')) \/ ∃ d,b δ=some (.rt d) /\ r δ (.rt d)))):
  ∃ q,ir c b δ=some q /\ r δ q:=by
 suffices hh:∀ k m δ,m < k->W m δ->∃ n q,si c b n δ=some q /\ r δ q by
  obtain ⟨n,q,e,hq⟩:=hh (m + 1) m δ (Nat.lt_succ_self m) h
  exact ⟨q,Am e,hq⟩
 intro k
 induction k with
 | zero=>intro m δ hm; omega
 | succ k ih=>
   intro m δ hm hW
   rcases hs m δ hW with ⟨hc,hr⟩ | ⟨hc,⟨δ',m',hb,j4,V7,imp⟩ | ⟨δ',hb,hr⟩ | ⟨d,hb,hr⟩⟩
   ·exact ⟨1,_,by rw [si,hc]; rfl,hr⟩
   ·obtain ⟨n,q,e,hq⟩:=ih m' δ' (by omega) V7
    refine ⟨n + 1,q,?_,imp q hq⟩
    rw [si,hc,Option.bind_some,if_pos rfl]
    rcases hb with hb | hb <;> rw [hb,Option.bind_some] <;> exact e
   ·exact ⟨1,_,by rw [si,hc,Option.bind_some,if_pos rfl,hb]; rfl,hr⟩
   ·exact ⟨1,_,by rw [si,hc,Option.bind_some,if_pos rfl,hb]; rfl,hr⟩
section
variable {X:Cx} {O:List Nat} {fr:Fr} {body:List Stmt} {gb:DS->Option Res} {gc:DS->Option Bool} {c:Expr} {pos:Pos}
theorem uS (hp:PassesOwn (model X.prog X.w) X.A X.env X.xe) (hc:PT X c (tT X.K O gc)) (hb:jy X body (tS X.K O fr gb)):PS X (.While c body [] pos) (tS X.K O fr (ir gc gb)):=(BK hp hc hb).mono fun E σ H hh=>hh.e fun H0 U A0 δ r R F ed P=>by
 obtain ⟨n,en⟩:=uR ed
 refine ⟨fun m σ H=>∃ U δ,Rel X.K O U A0 σ δ H /\ Fx H0 A0 U H /\ si gc gb m δ=some r,⟨n,U,δ,R,F,en⟩,?_⟩
 rintro m σ H ⟨U,δ,R,F,em⟩
 cases m with
 | zero=>cases em
 | succ m=>
   rw [si] at em
   obtain ⟨x,e1,e2⟩:=bind1 em
   refine ⟨U,A0,δ,x,R,e1,fun H' s=>?_⟩
   cases x with
   | false=>rw [if_neg Bool.false_ne_true] at e2 ⊢; cases e2; exact P U σ H' (R.same s) (F.grow s)
   | true=>
     rw [if_pos rfl] at e2 ⊢
     obtain ⟨q,e3,e4⟩:=bind1 e2
     refine ⟨fun cb H'=>∃ m',m' < m + 1 /\ ∃ U δ,Rel X.K O U A0 cb δ H' /\ Fx H0 A0 U H' /\ si gc gb m' δ=some r,fun _ _ h=>h,H0,U,A0,δ,q,R.same s,F.grow s,e3,?_⟩
     cases q with
     | nx δ'=>exact fun U' cb H' R' F'=>⟨m,Nat.lt_succ_self m,U',δ',R',F',e4⟩
     | ct δ'=>exact fun U' cb H' R' F'=>⟨m,Nat.lt_succ_self m,U',δ',R',F',e4⟩
     | bk δ'=>cases e4; exact P
     | rt d=>cases e4; exact P
end
def aD (i:Nat):D->DS->Option DS:=fun d δ=>some (δ.set i (some d))
def iu (n:Nat) (g:List D->DS->Option DS):D->DS->Option DS:=fun d δ=>match d with
 | .tuple ds=>if ds.length=n then g ds δ else none
 | _=>none
def iQ:List D->DS->Option DS:=fun ds δ=>if ds=[] then some δ else none
def bY (t:D->DS->Option DS) (u:List D->DS->Option DS):List D->DS->Option DS:=fun ds δ=>match ds with
 | d :: r=>(t d δ).bind fun δ'=>u r δ'
 | []=>none
def Lh (K:PySem.W.Frag) (O:List Nat) (g:List D->DS->Option DS):Fb:=fun vs σ H Q=>∃ U A0 δ ds δ',Rel K O U A0 σ δ H /\ cj K (wo H (U ++ A0)) vs ds /\ g ds δ=some δ' /\ ∀ cb,Rel K O U A0 cb δ' H->Q cb H
theorem Lh.e {K:PySem.W.Frag} {O:List Nat} {g:List D->DS->Option DS}  {vs:_} {σ:_} {H:_} {Q:_} {GG:Prop} (hh:Lh K O g vs σ H Q) (kk:∀ U A0 δ ds δ',(Rel K O U A0 σ δ H)->(cj K (wo H (U ++ A0)) vs ds)->(g ds δ=some δ')->(∀ cb,Rel K O U A0 cb δ' H->Q cb H)->GG):GG:=by obtain ⟨U,A0,δ,ds,δ',x0,x1,x2,x3⟩:=hh; exact kk U A0 δ ds δ' x0 x1 x2 x3
section
variable {X:Cx} {O:List Nat} {e:Expr} {es:List Expr} {pos:Pos}
theorem BI.mono {t t':Fb} (h:BI X es t) (m:∀ v σ H Q,t' v σ H Q->t v σ H Q):BI X es t':=fun pins s σ H v u Q I r q=>h pins s σ H v u Q I r (m v σ H Q q)
theorem ay {i:Nat} (h:PG X e (kW i)) (hi:i∉O:=by decide):PG X e (tG X.K O (aD i)):=h.mono fun v σ H Q hh=>hh.e fun U A0 δ d δ' R hd e1 q=>by
 cases e1
 exact q _ (R.set hi hd)
set_option tactic.hygienic true in
theorem jF:BI X [] (Lh X.K O iQ):=Fc.mono fun vs σ H Q hh=>hh.e fun U A0 δ ds δ' R hd e1 q=>by
 unfold iQ at e1
 split at e1
 ·rename_i hz
  cases e1
  subst hz
  cases hd
  exact ⟨rfl,q σ R⟩
 ·cases e1
theorem cE {t:D->DS->Option DS} {u:List D->DS->Option DS} (h1:PG X e (tG X.K O t)) (h2:BI X es (Lh X.K O u)) (hs:(assignEach (e :: es) X.env).map (·.2)=assign e X.env :: (assignEach es X.env).map (·.2):=by rfl):BI X (e :: es) (Lh X.K O (bY t u)):=
 (BJ h1 h2 hs).mono fun vs σ H Q hh=>hh.e fun U A0 δ ds δ' R hd e1 q=>by
  cases hd with
  | nil=>cases e1
  | cons hx hr=>
    obtain ⟨gL,e2,e3⟩:=bind1 e1
    exact ⟨_,_,rfl,U,A0,δ,_,gL,R,hx,e2,fun IJ R1=>⟨U,A0,gL,_,δ',R1,hr,e3,q⟩⟩
set_option tactic.hygienic true in
theorem jG {n k:Nat} {t:List D->DS->Option DS} (hc:X.calm=true) (h:BI X es (Lh X.K O t)) (hn:(assignEach es X.env).length=n:=by rfl) (Ht:(assignEach es X.env).findIdx? (·.1)=none:=by rfl):PG X (.Tuple es k pos) (tG X.K O (iu n t)):=
 (IK hc h hn Ht).mono fun v σ H Q hh=>hh.e fun U A0 δ d δ' R hd e1 q=>by
  unfold iu at e1
  split at e1
  ·split at e1
   ·rename_i hz
    obtain ⟨a,xs,rfl,h1,h2⟩:=(fY.of hd).tuple
    exact ⟨a,xs,rfl,h1,by rw [h2.len]; exact hz,U,A0,δ,_,δ',R,h2,e1,q⟩
   ·cases e1
  ·cases e1
end
def ki (t:D->DS->Option DS) (b:DS->Option Res):List D->DS->Option Res
 | [],δ=>some (.nx δ)
 | d :: ds,δ=>(t d δ).bind fun gL=>(b gL).bind fun | .nx δ'=>ki t b ds δ' | .ct δ'=>ki t b ds δ' | .bk δ'=>some (.nx δ') | .rt d=>some (.rt d)
def eL (gi:DS->Option (List D)) (t:D->DS->Option DS) (b:DS->Option Res):DS->Option Res:=fun δ=>(gi δ).bind fun ds=>ki t b ds δ
theorem Fx.Ms {H0 H H':Hp} {A0 U:List Addr} (F:Fx H0 A0 U H) (s:aA (wo H U) H'):aA H0 H':=fun a o e=>s a o (by
 rw [aY fun z=>?_]
 ·exact F.same _ _ e
 ·rw [F.new a z] at e; cases e)
set_option tactic.hygienic true in
theorem kh.trans {K:PySem.W.Frag} {fr:Bool} {H0 H H':Hp} {A0 U:List Addr} {v:V} {d:D} (F:Fx H0 A0 U H) (h:kh K fr (wo H U) A0 v d H'):kh K fr H0 A0 v d H':=by
 have k:∀ a o,H0 a=some o->wo H U a=some o:=fun a o e=>by
  rw [aY fun z=>?_]
  ·exact F.same _ _ e
  ·rw [F.new a z] at e; cases e
 unfold kh at h ⊢
 split
 ·rename_i hf
  rw [if_pos hf] at h
  obtain ⟨r,ob,a,c,e,f,g⟩:=h
  refine ⟨r,ob,a,fun x o q=>c _ _ (k x o q),?_,f,g⟩
  cases q:H0 r with
  | none=>rfl
  | some o=>rw [k r o q] at e; cases e
 ·rename_i hf
  rw [if_neg hf] at h
  exact ⟨fun x o q=>h.1 _ _ (k x o q),h.2⟩
section
variable {X:Cx} {O:List Nat} {fr:Fr} {body:List Stmt} {gb:DS->Option Res} {gi:DS->Option (List D)} {tg iter:Expr} {gt:D->DS->Option DS} {pos:Pos}
theorem dh (hp:PassesOwn (model X.prog X.w) X.A X.env X.xe) (hc:X.calm=true) (hi:PI X tg iter (tI X.K O gi)) (hg:PG X tg (tG X.K O gt)) (hb:jy X body (tS X.K O fr gb))
  (hs:∀ x,foldedSetIterable iter X.env x=pure x:=by intro _; rfl):PS X (.For tg iter body [] pos) (tS X.K O fr (eL gi gt gb)):=(IM hp hc hi hg hb hs).mono fun E σ H hh=>hh.e fun H0 U A0 δ r R F ed P=>by
 obtain ⟨ds,e1,e2⟩:=bind1 ed
 refine ⟨U,A0,δ,ds,R,e1,fun J H1 s hw=>?_⟩
 have F1:=F.grow s
 refine ⟨fun i m σ H=>m=ds.length - i /\ i<=ds.length /\ ∃ U2 δ,Rel X.K O U2 A0 σ δ H /\ Fx H0 A0 U2 H /\ Fx (wo H1 U) A0 U2 H /\ ki gt gb (ds.drop i) δ=some r,⟨ds.length,by simp,Nat.zero_le _,U,δ,R.same s,F1,F1.here,by simpa using e2⟩,?_⟩
 rintro i m σ H ⟨rfl,hle,U2,δ,R2,F2,G2,ef⟩
 obtain ⟨Pg,CH⟩:=hw (U2 ++ A0) i H G2.keeps R2.al
 by_cases j4:i < ds.length
 ·obtain ⟨d,hd⟩:∃ d,ds[i]?=some d:=⟨_,List.getElem?_eq_getElem j4⟩
  have Mt:ds.drop i=d :: ds.drop (i + 1):=by
   rw [List.drop_eq_getElem_cons j4]
   rw [List.getElem?_eq_getElem j4] at hd
   cases hd; rfl
  obtain ⟨go,hy⟩:=Pg d hd
  rw [Mt,ki] at ef
  obtain ⟨gL,e3,e4⟩:=bind1 ef
  obtain ⟨q,e5,e6⟩:=bind1 e4
  refine .inr ⟨go,fun cb H'=>∃ m',m' < ds.length - i /\ (m'=ds.length - (i + 1) /\ i + 1<=ds.length /\ ∃ U2 δ,Rel X.K O U2 A0 cb δ H' /\ Fx H0 A0 U2 H' /\ Fx (wo H1 U) A0 U2 H' /\ ki gt gb (ds.drop (i + 1)) δ=some r),fun _ _ h=>h,fun x H2 y=>?_⟩
  obtain ⟨s2,hx⟩:=hy x H2 y
  refine ⟨U2,A0,δ,d,gL,R2.same s2,hx,e3,fun cb R'=>?_⟩
  have F3:=F2.grow s2
  have G3:=G2.grow s2
  refine ⟨wo H2 U2,U2,A0,gL,q,R',F3.here,e5,?_⟩
  cases q with
  | nx δ'=>exact fun U' cb H' R' F'=>⟨_,by omega,rfl,j4,U',δ',R',F3.trans F',G3.trans F',e6⟩
  | ct δ'=>exact fun U' cb H' R' F'=>⟨_,by omega,rfl,j4,U',δ',R',F3.trans F',G3.trans F',e6⟩
  | bk δ'=>cases e6; exact fun U' cb H' R' F'=>P U' cb H' R' (F3.trans F')
  | rt d=>cases e6; exact ⟨fun v H' h=>P.1 v H' (h.trans F3),fun c H' e s=>P.2 c H' e (F3.Ms s)⟩
 ·have hi:i=ds.length:=by omega
  subst hi
  rw [List.drop_length,ki] at ef
  cases ef
  exact .inl ⟨CH rfl,P U2 σ H R2 F2⟩
end
def fN (lo:Int) (n:Nat):List D:=(List.range n).map fun k:Nat=>PyData.int (lo + k)
theorem oX {lo:Int} {n i:Nat} {d:D} (h:(fN lo n)[i]?=some d):i < n /\ d=.int (lo + i):=by
 unfold fN at h
 rw [List.getElem?_map] at h
 cases e:(List.range n)[i]? with
 | none=>rw [e] at h; cases h
 | some k=>
   rw [e] at h; cases h
   have hi:=(List.getElem?_eq_some_iff.mp e).1
   rw [List.length_range] at hi
   rw [List.getElem?_range hi] at e
   cases e
   exact ⟨hi,rfl⟩
theorem oY {lo:Int} {n:Nat}:(fN lo n).length=n:=by unfold fN; simp
theorem nN {K:PySem.W.Frag} {A:List Addr} {H1:Hp} {lo:Int} {n:Nat}:Walks K A H1 (LV lo n) (fN lo n):=by
 intro A' i H _ _
 refine ⟨fun d hd=>?_,fun hi=>?_⟩
 ·obtain ⟨hi,rfl⟩:=oX hd
  refine ⟨hi,fun x H2 y=>?_⟩
  obtain ⟨rfl,rfl⟩:=y
  exact ⟨aA.refl _,.int _⟩
 ·rw [oY] at hi
  subst hi
  exact Nat.le_refl _
def cT (g:DS->Option (List D)):DS->Option (List D):=fun δ=>(g δ).bind fun | [.int j]=>if -(2 ^ 62)<=j /\ j < 2 ^ 62 then some (fN 0 j.toNat) else none | _=>none
def oy (g:DS->Option (List D)):DS->Option (List D):=fun δ=>(g δ).bind fun | [.int i,.int j]=>if -(2 ^ 62)<=i /\ i < 2 ^ 62 /\ -(2 ^ 62)<=j /\ j < 2 ^ 62 then some (fN i (j - i).toNat) else none | _=>none
def aQ (g:DS->Option D):DS->Option (List D):=fun δ=>(g δ).bind fun | .list l=>some l | .tuple l=>some l | _=>none
section
variable {X:Cx} {O:List Nat} {tg a b e:Expr} {gr:DS->Option (List D)} {ge:DS->Option D} {pos p:Pos}
set_option tactic.hygienic true in
theorem fO (hm:X.mg "range"=none) (ha:PA X [a] (rh X.K O gr)) (hg:Gl X "range":=by rfl) (hs:starEach [a] X.env=[(false,eval a X.env)]:=by rfl):PI X tg (.Call (.Name "range" p) [a] [] pos) (tI X.K O (cT gr)):=(z6 hg hm ha hs).mono fun σ H Q hh=>hh.e fun U A0 δ ds R ed q=>by
 obtain ⟨x,e1,e2⟩:=bind1 ed
 refine ⟨U,A0,δ,x,R,e1,fun vs H' s h=>?_⟩
 split at e2
 ·split at e2
  ·rename_i hz
   cases e2
   cases h with
   | cons h1 h2=>
     cases h2
     cases h1
     exact ⟨_,rfl,hz.1,hz.2,q _ H' s nN⟩
  ·cases e2
 ·cases e2
set_option tactic.hygienic true in
theorem Ao (hm:X.mg "range"=none) (ha:PA X [a,b] (rh X.K O gr)) (hg:Gl X "range":=by rfl) (hs:starEach [a,b] X.env=[(false,eval a X.env),(false,eval b X.env)]:=by rfl) (kb:starEach [b] X.env=[(false,eval b X.env)]:=by rfl):PI X tg (.Call (.Name "range" p) [a,b] [] pos) (tI X.K O (oy gr)):=(z7 hg hm ha hs kb).mono fun σ H Q hh=>hh.e fun U A0 δ ds R ed q=>by
 obtain ⟨x,e1,e2⟩:=bind1 ed
 refine ⟨U,A0,δ,x,R,e1,fun vs H' s h=>?_⟩
 split at e2
 ·split at e2
  ·rename_i hz
   cases e2
   cases h with
   | cons h1 h2=>cases h2 with
     | cons h2 h3=>
       cases h3
       cases h1
       cases h2
       exact ⟨_,_,rfl,hz,q _ H' s nN⟩
  ·cases e2
 ·cases e2
def Ph (K:PySem.W.Frag) (tl:TE):TI:=fun σ H R=>tl σ H fun x H1=>(∃ a,x=.ref a /\ (∃ xs,gN K H1 a xs) /\ R (Ux K a) H1) \/ ∃ a,x=.ref a /\ (∃ xs,jB K H1 a xs) /\ R (Uy K a) H1
theorem JI {l:Expr} {tl:TE} (hl:PE X l tl):PI X tg l (Ph X.K tl):=by
 intro pins s σ H R I h
 refine cO (hl pins s σ H _ I h) fun v s1 ⟨x,H1,I1,r1,q1⟩=>?_
 rcases q1 with ⟨a,e,⟨xs,hq⟩,q⟩ | ⟨a,e,⟨xs,hq⟩,q⟩
 ·subst e
  cases r1
  obtain ⟨its,rv,p,hz⟩:=I1.list hq
  refine wpAny_pyIter_list p.isList ?_
  refine ⟨s1.heap.objs.size,[s1.heap.objs.size],_,_,H1,rfl,I1.kept (t':=s1.toks) fun b o e=>Heap.get?_push_of_some _ e,z5 a _,⟨_,Heap.get?_push_size _ rfl,rfl,rfl⟩,fun b hb=>?_,q⟩
  have e:b=s1.heap.objs.size:=by simpa using hb
  subst e
  exact I1.lU (Nat.le_refl _) (I1.be.fresh (Nat.le_refl _))
 ·subst e
  cases r1
  obtain ⟨its,rv,p,hz⟩:=I1.tuple hq
  refine wpAny_pyIter_tuple (show s1.heap.IsTuple a its.toArray from p) ?_
  refine ⟨s1.heap.objs.size,[s1.heap.objs.size],_,_,H1,rfl,I1.kept (t':=s1.toks) fun b o e=>Heap.get?_push_of_some _ e,wV a _,⟨_,Heap.get?_push_size _ rfl,rfl,rfl⟩,fun b hb=>?_,q⟩
  have e:b=s1.heap.objs.size:=by simpa using hb
  subst e
  exact I1.lU (Nat.le_refl _) (I1.be.fresh (Nat.le_refl _))
theorem br (h:PE X e (tE X.K O ge)):PI X tg e (tI X.K O (aQ ge)):=(JI h).mono fun σ H Q hh=>hh.e fun U A0 δ ds R ed q=>by
 obtain ⟨x,e1,e2⟩:=bind1 ed
 cases x with
 | list l=>
   cases e2
   refine ⟨U,A0,δ,_,R,e1,fun v H' s h=>?_⟩
   cases h with
   | lst hq h=>
     refine .inl ⟨_,rfl,⟨_,(hq.same bq).sq⟩,q _ H' s ?_⟩
     intro A' i H2 s2 _
     have Ap:=hq.same s2
     have h2:=h.same s2
     have hL:gN X.K H2 _ _:=(Ap.same bq).sq
     refine ⟨fun d hd=>?_,fun hi=>⟨_,hL,by rw [h2.len]; omega⟩⟩
     obtain ⟨x,hx,Pj⟩:=h2.get hd
     refine ⟨⟨_,x,hL,hx⟩,fun y H3 hy=>?_⟩
     obtain ⟨rfl,hy⟩:=hy
     have:=hy _ hL
     rw [hx] at this
     cases this
     exact ⟨aA.refl _,Pj⟩
 | tuple l=>
   cases e2
   refine ⟨U,A0,δ,_,R,e1,fun v H' s h=>?_⟩
   cases h with
   | tup hq h=>
     refine .inr ⟨_,rfl,⟨_,(.inl (bq.l7 hq))⟩,q _ H' s ?_⟩
     intro A' i H2 s2 _
     have Ap:=s2.l7 hq
     have h2:=h.same s2
     have hL:jB X.K H2 _ _:=.inl (bq.l7 Ap)
     refine ⟨fun d hd=>?_,fun hi=>⟨_,hL,by rw [h2.len]; omega⟩⟩
     obtain ⟨x,hx,Pj⟩:=h2.get hd
     refine ⟨⟨_,x,hL,hx⟩,fun y H3 hy=>?_⟩
     obtain ⟨rfl,hy⟩:=hy
     have:=hy _ hL
     rw [hx] at this
     cases this
     exact ⟨aA.refl _,Pj⟩
 | _=>cases e2
end
def gy (ix:List Nat) (δ:DS):DS:=ix.map fun j=>(δ[j]?).join
def CI (f:D->Option D):List D->Option (List D)
 | []=>some []
 | d :: ds=>(f d).bind fun x=>(CI f ds).bind fun xs=>some (x :: xs)
def dj (gi:DS->Option (List D)) (ix:List Nat) (ge:DS->Option D):DS->Option (List D):=fun δ=>(gi δ).bind fun ds=>if ds.length<=100000 then CI (fun d=>ge (some d :: gy ix δ)) ds else none
section
variable {X:Cx} {O:List Nat} {fr:Fr} {scope:Scope} {x:Str} {elt iter:Expr} {px pos:Pos} {gi:DS->Option (List D)} {ge:DS->Option D}
theorem PS.nE {st:Stmt} {i:Nat} {g:DS->Option (List D)} (h:PS X st (uC (tN X.K O g) (kW i))):PS X st (uC (tE X.K O (ax g)) (kW i)):=h.mono fun _ _ _ h=>HM h
end
def iK:Res->Option D
 | .rt d=>some d
 | .nx _=>some .none
 | _=>none
def kZ:Res->Option (List D)
 | .rt (.list l)=>some l
 | _=>none
def gQ (n:Nat) (g:DS->Option Res):List D->Option D:=fun ds=>(g (ds.map some ++ List.replicate (n - ds.length) none)).bind iK
def k7 (n:Nat) (g:DS->Option Res):List D->Option (List D):=fun ds=>(g (ds.map some ++ List.replicate (n - ds.length) none)).bind kZ
theorem Rel.start {K:PySem.W.Frag} {O:List Nat} {A:List Addr} {N:List Str} {vs:List V} {ds:List D} {H:Hp} (al:Ls A H) (h:cj K (wo H A) vs ds) (hO:∀ i∈O,ds.length<=i):Rel K O [] A (start N vs) (ds.map some ++ List.replicate (N.length - ds.length) none) H:=by
 have hl:=h.len
 have none_of:∀ (i:Nat) d,ds.length<=i->(ds.map some ++ List.replicate (N.length - ds.length) none)[i]?=some (some d)->False:=by
  intro i d hi q
  rw [List.getElem?_append_right (by simpa using hi)] at q
  have:=List.mem_of_getElem? q
  rw [List.mem_replicate] at this
  exact absurd this.2 (by simp)
 exact {
  len:=by unfold L2.start; simp [hl]
  fz:=fun i d _ q=>by
   by_cases hi:i < ds.length
   ·rw [List.getElem?_append_left (by simpa using hi),List.getElem?_map,List.getElem?_eq_getElem hi] at q
    simp only [Option.map_some,Option.some.injEq] at q
    obtain ⟨v,e,hv⟩:=h.get (List.getElem?_eq_getElem hi)
    refine ⟨v,?_,?_⟩
    ·unfold L2.start
     rw [List.getElem?_append_left (by rw [List.length_map]; omega),List.getElem?_map,e]; rfl
    ·rw [List.nil_append,<- q]; exact hv
   ·exact (none_of i d (by omega) q).elim
  ow:=fun i d hi q=>(none_of i d (hO i hi) q).elim
  inj:=fun i j d e l hi _ _ q=>(none_of i d (hO i hi) q).elim
  al:=al }
theorem Fx.start {A:List Addr} {H:Hp} (al:Ls A H):Fx H A [] H:=⟨aA.refl H,fun _ h=>by simp at h,al⟩
section
variable {P:Program} {w:World} {K:PySem.W.Frag} {mg:Str->Option Value} {base:Heap} {x:Str} {st:Stmt} {N ps:List Str} {k:Nat}
theorem eM (O:List Nat) (g:DS->Option Res) (F:Df K mg x st ps) (S:aN N ps (ai st))
  (body:∀ (f:Addr) (bZ:Value) (A:Around) (outer:List Env) (s:Shared) (H:Hp) (E:XK),cy k (A.deeper (envOfC x (ai st) s.heap.objs.size f bZ))->jy (gO mF P w K mg base N x (ai st) f bZ A outer s H E).BG (cz st) (tS K O (false,fun _ _=>True) g))
  (hO:∀ i∈O,ps.length<=i:=by decide) {n m:Nat} (hN:N.length=n:=by rfl) (hP:ps.length=m:=by rfl):Dn P w K mg base (k + 1) x ps (gW K m (gQ n g)):=by
 subst hN hP
 refine F.ok S (fun vs H Q E h=>h.1) (fun f bZ A outer s H vs Q E hr h=>⟨_,body f bZ A outer s H E hr,?_⟩)
 obtain ⟨hn,A',ds,d,al,hd,e,q⟩:=h
 obtain ⟨r,e1,e2⟩:=bind1 e
 refine ⟨H,[],A',_,r,Rel.start al hd (fun i hi=>by have:=hO i hi; rw [<- hd.len,hn]; exact this),Fx.start al,e1,?_⟩
 cases r with
 | nx δ=>cases e2; exact fun U σ H' R F'=>q .gM H' F'.same .gM
 | rt d=>cases e2; exact ⟨fun v H' h=>by unfold kh at h; rw [if_neg Bool.false_ne_true] at h; exact q v H' h.1 h.2,fun _ _ _ _=>trivial⟩
 | bk _=>cases e2
 | ct _=>cases e2
theorem Mu {f:Addr} {fd:FuncData} (O:List Nat) (g:DS->Option Res) (F:j6 K x x st f fd) (S:aN N ps (ai st))
  (body:∀ (f:Addr) (bZ:Value) (A:Around) (outer:List Env) (s:Shared) (H:Hp) (E:XK),cy k (A.deeper (envOfC x (ai st) s.heap.objs.size f bZ))->jy (gO mF P w K mg base N x (ai st) f bZ A outer s H E).BG (cz st) (tS K O (false,fun _ _=>True) g))
  (hO:∀ i∈O,ps.length<=i:=by decide) {n m:Nat} (hN:N.length=n:=by rfl) (hP:ps.length=m:=by rfl):lb P w K mg base mF (k + 1) f fd ps (gW K m (gQ n g)):=by
 subst hN hP
 refine F.ok S (fun vs H Q E h=>h.1) (fun bZ A outer s H vs Q E hr h=>⟨_,body f bZ A outer s H E hr,?_⟩)
 obtain ⟨hn,A',ds,d,al,hd,e,q⟩:=h
 obtain ⟨r,e1,e2⟩:=bind1 e
 refine ⟨H,[],A',_,r,Rel.start al hd (fun i hi=>by have:=hO i hi; rw [<- hd.len,hn]; exact this),Fx.start al,e1,?_⟩
 cases r with
 | nx δ=>cases e2; exact fun U σ H' R F'=>q .gM H' F'.same .gM
 | rt d=>cases e2; exact ⟨fun v H' h=>by unfold kh at h; rw [if_neg Bool.false_ne_true] at h; exact q v H' h.1 h.2,fun _ _ _ _=>trivial⟩
 | bk _=>cases e2
 | ct _=>cases e2
theorem gY (O:List Nat) (g:DS->Option Res) (F:Df K mg x st ps) (S:aN N ps (ai st))
  (body:∀ (f:Addr) (bZ:Value) (A:Around) (outer:List Env) (s:Shared) (H:Hp) (E:XK),cy k (A.deeper (envOfC x (ai st) s.heap.objs.size f bZ))->jy (gO mF P w K mg base N x (ai st) f bZ A outer s H E).BG (cz st) (tS K O (true,fun _ _=>True) g))
  (hO:∀ i∈O,ps.length<=i:=by decide) {n m:Nat} (hN:N.length=n:=by rfl) (hP:ps.length=m:=by rfl):Dn P w K mg base (k + 1) x ps (kY K m (k7 n g)):=by
 subst hN hP
 refine F.ok S (fun vs H Q E h=>h.1) (fun f bZ A outer s H vs Q E hr h=>⟨_,body f bZ A outer s H E hr,?_⟩)
 obtain ⟨hn,A',ds,d,al,hd,e,q⟩:=h
 obtain ⟨r,e1,e2⟩:=bind1 e
 refine ⟨H,[],A',_,r,Rel.start al hd (fun i hi=>by have:=hO i hi; rw [<- hd.len,hn]; exact this),Fx.start al,e1,?_⟩
 cases r with
 | rt d'=>
   refine ⟨fun v H' h=>?_,fun _ _ _ _=>trivial⟩
   unfold kh at h
   rw [if_pos rfl] at h
   obtain ⟨r,ob,rfl,a,b,c,f⟩:=h
   cases f with
   | lst f=>cases e2; exact q r _ H' a b c f
   | l8 _ _=>cases e2
 | nx δ=>cases e2
 | bk _=>cases e2
 | ct _=>cases e2
end
def iw (f f':D->D->Option D) (a b c:DS->Option D):DS->Option D:=fun δ=>(a δ).bind fun x=>(b δ).bind fun y=>(f x y).bind fun z=>match z with
 | .bool true=>(c δ).bind fun w=>f' y w
 | .bool false=>some (.bool false)
 | _=>none
section
variable {X:Cx} {O:List Nat} {a b c:Expr} {ga gb gc:DS->Option D} {pos:Pos} {r r':R2}
theorem uT {K:PySem.W.Frag} {f f':D->D->Option D} (imp:i4 K r f) (imp':i4 K r' f') {σ:St} {H:Hp} {Q:VK}:tE K O (iw f f' ga gb gc) σ H Q->w4 r r' (gU K O ga) (gU K O gb) (gU K O gc) σ H Q:=fun ⟨U,A0,δ,d,R,ed,q⟩=>by
 obtain ⟨x,e1,ed⟩:=bind1 ed
 obtain ⟨y,e2,ed⟩:=bind1 ed
 obtain ⟨z,e3,ed⟩:=bind1 ed
 refine ⟨U,A0,δ,x,R,e1,fun v1 H1 s1 h1=>⟨U,A0,δ,y,R.same s1,e2,fun v2 H2 s2 h2=>imp _ H2 v1 v2 x y z _ (R.same (s1.trans s2)).al (h1.same s2) h2 e3 fun v3 H3 s3 h3=>?_⟩⟩
 cases z with
 | bool k=>
   cases h3
   refine ⟨k,rfl,?_⟩
   cases k with
   | true=>
     obtain ⟨w,e4,e5⟩:=bind1 ed
     first
      | rw [if_pos rfl]
      | skip
     exact ⟨U,A0,δ,w,R.same ((s1.trans s2).trans s3),e4,fun v4 H4 s4 h4=>imp' _ H4 v2 v4 y w d Q (R.same (((s1.trans s2).trans s3).trans s4)).al (h2.same (s3.trans s4)) h4 e5 fun v H' s h=>q v H' ((((s1.trans s2).trans s3).trans s4).trans s) h⟩
   | false=>
     cases ed
     first
      | rw [if_neg Bool.false_ne_true]
      | skip
     exact q _ H3 ((s1.trans s2).trans s3) (.bl _)
 | _=>cases ed
theorem CJ {op w5:CmpOp} {f f':D->D->Option D} (ho:gT X (compareOp op) r) (imp:i4 X.K r f) (uo:gT X (compareOp w5) r') (imp':i4 X.K r' f') (ha:PE X a (gU X.K O ga)) (hb:PE X b (gU X.K O gb)) (hc:PE X c (gU X.K O gc)) (hm:lastMarks [op,w5] [b,c]=false:=by with_unfolding_all rfl):PE X (.Compare a [op,w5] [b,c] pos) (tE X.K O (iw f f' ga gb gc)):=(BQ ho uo ha hb hc hm).mono fun _ _ _=>uT imp imp'
theorem rm {op w5:CmpOp} {f f':D->D->Option D} (ho:gT X (compareOp op) r) (imp:i4 X.K r f) (uo:gT X (compareOp w5) r') (imp':i4 X.K r' f') (ha:PE X a (gU X.K O ga)) (hb:PE X b (gU X.K O gb)) (hc:PE X c (gU X.K O gc)) (hm:lastMarks [op,w5] [b,c]=false:=by with_unfolding_all rfl):PT X (.Compare a [op,w5] [b,c] pos) (tT X.K O (gB (iw f f' ga gb gc))):=(BR ho uo ha hb hc hm).mono fun _ _ _=>HN fun _ _ _=>uT imp imp'
end
section
variable {X:Cx} {O:List Nat} {fr:Fr} {st:Stmt} {gr:DS->Option (List D)} {i j:Nat}
end
abbrev FW:D->D->Option D:=HP (fun _ j=>0<=j) fun i j=>.int (i / 2 ^ j.toNat)
def kj:D->Bool
 | .none | .bool _ | .int _ | .str _=>true
 | _=>false
def dV:D->V
 | .none=>.gM
 | .bool b=>.bl b
 | .int i=>.int i
 | .str x=>.str x
 | _=>.gM
def JJ (a b:D):Bool:=ER (dV a) (dV b)
def Bp:D->D->Option D:=fun x y=>match y with
 | .list l=>if (kj x && l.all kj)=true then some (.bool (l.any fun z=>JJ z x)) else none
 | .tuple l=>if (kj x && l.all kj)=true then some (.bool (l.any fun z=>JJ z x)) else none
 | _=>none
def sj:D->D->Option D:=fun x y=>(Bp x y).bind fun | .bool c=>some (.bool (!c)) | _=>none
theorem fY.flat {K:PySem.W.Frag} {A:List Addr} {H:Hp} {v:V} {d:D} (h:fY K A H v d) (f:kj d=true):v=dV d /\ j2 v=true:=by
 cases d with
 | none=>rw [h.gM]; exact ⟨rfl,rfl⟩
 | bool b=>rw [h.bool]; exact ⟨rfl,rfl⟩
 | int i=>rw [h.int]; exact ⟨rfl,rfl⟩
 | str x=>rw [h.str]; exact ⟨rfl,rfl⟩
 | _=>cases f
theorem cj.flat {K:PySem.W.Frag} {H:Hp}:∀ {xs:List V} {ds:List D},cj K H xs ds->ds.all kj=true->xs=ds.map dV /\ xs.all j2=true
 | _,_,.nil,_=>⟨rfl,rfl⟩
 | _,_,.cons h t,f=>by
   rw [List.all_cons,Bool.and_eq_true] at f
   obtain ⟨e1,e2⟩:=cj.flat t f.2
   obtain ⟨e3,e4⟩:=(fY.of (A:=[]) (by rw [Cr]; exact h)).flat f.1
   exact ⟨by rw [List.map_cons,<- e1,<- e3],by rw [List.all_cons,e4,e2]; rfl⟩
theorem HR (x:D) (l:List D):Jh (dV x) (l.map dV)=l.any fun z=>JJ z x:=by
 unfold Jh JJ
 rw [List.any_map]; rfl
section
variable {X:Cx}
theorem sk:gT X (compareOp .In) (Lc X.K false):=Ab
theorem Aq:gT X (compareOp .NotIn) (Lc X.K true):=rW
end
set_option tactic.hygienic true in
theorem zj {K:PySem.W.Frag} {A:List Addr} {H:Hp} {x y:V} {dx dy d:D} (hx:fY K A H x dx) (hy:fY K A H y dy) (e:Bp dx dy=some d):∃ p xs b,y=.ref p /\ (gN K H p xs \/ jB K H p xs) /\ j2 x=true /\ xs.all j2=true /\ d=.bool b /\ Jh x xs=b:=by
 unfold Bp at e
 split at e
 ·split at e
  ·rename_i hf
   rw [Bool.and_eq_true] at hf
   cases e
   obtain ⟨p,xs,rfl,h1,h2⟩:=hy.list
   obtain ⟨e1,e2⟩:=h2.flat hf.2
   obtain ⟨e3,e4⟩:=hx.flat hf.1
   exact ⟨p,xs,_,rfl,.inl h1.sq,e4,e2,rfl,by rw [e1,e3,HR]⟩
  ·cases e
 ·split at e
  ·rename_i hf
   rw [Bool.and_eq_true] at hf
   cases e
   obtain ⟨p,xs,rfl,h1,h2⟩:=hy.tuple
   obtain ⟨e1,e2⟩:=h2.flat hf.2
   obtain ⟨e3,e4⟩:=hx.flat hf.1
   exact ⟨p,xs,_,rfl,.inr h1,e4,e2,rfl,by rw [e1,e3,HR]⟩
  ·cases e
 ·cases e
theorem so {K:PySem.W.Frag}:i4 K (Lc K false) Bp:=by
 intro A H x y dx dy d Q al hx hy e q
 obtain ⟨p,xs,b,h1,h2,h3,h4,rfl,h5⟩:=zj hx hy e
 refine ⟨p,xs,h1,h2,h3,h4,?_⟩
 show Q (.bl (Jh x xs)) H
 rw [h5]
 exact q _ H (aA.refl H) (.bl _)
theorem Ar {K:PySem.W.Frag}:i4 K (Lc K true) sj:=by
 intro A H x y dx dy d Q al hx hy e q
 obtain ⟨c,e1,e2⟩:=bind1 e
 obtain ⟨p,xs,b,h1,h2,h3,h4,rfl,h5⟩:=zj hx hy e1
 cases e2
 refine ⟨p,xs,h1,h2,h3,h4,?_⟩
 show Q (.bl (!Jh x xs)) H
 rw [h5]
 exact q _ H (aA.refl H) (.bl _)
theorem zk (a b:Int):JJ (.int a) (.int b)=decide (a=b):=by
 simp only [JJ,dV,ER]
 rw [Bool.beq_eq_decide_eq]
section
variable {X:Cx} {O:List Nat} {fr:Fr} {st:Stmt} {ge gx:DS->Option D} {gl:DS->Option (List D)} {i:Nat}
def As (i:Nat) (g:DS->Option (List D)):DS->Option Res:=fun δ=>(ae i δ).bind fun x=>(g δ).bind fun zs=>match x with
 | .list ds=>if ds.length + zs.length<=100000 then some (.nx (δ.set i (some (.list (ds ++ zs))))) else none
 | _=>none
set_option tactic.hygienic true in
theorem m8 (h:PS X st (uB (O3 X.K "list" za (uz i) (BV (tN X.K O gl) IZ)))) (hi:i∈O:=by decide):PS X st (tS X.K O fr (As i gl)):=h.mono fun E σ H hh=>hh.e fun H0 U A0 δ r R F ed P=>by
 obtain ⟨x,e1,e2⟩:=bind1 ed
 obtain ⟨zs,e3,e4⟩:=bind1 e2
 rcases R.UN i x hi (join_some e1) with ⟨l,ys,ds,hl,rfl,hU,h1,h2⟩ | ⟨kds,rfl⟩
 rotate_left
 ·(exfalso; simp_all; done)
 simp only at e4
 split at e4
 ·rename_i hz
  cases e4
  refine ⟨.ref l,hl,.inl ⟨rfl,ys,gN.of h1⟩,U,A0,δ,zs,R,e3,fun p ws H' s hp V8 Ld=>?_⟩
  have Mr:=s _ _ h1
  have Pf:=h2.same (cC (A:=U ++ A0) s)
  have V9:=Ld.same (kg (A':=U ++ A0) fun a ha=>List.mem_cons_of_mem _ ha)
  have hlen:=h2.len
  have Mv:=Ld.len
  refine ⟨l,p,ys,ws,rfl,rfl,Mr,V8,small (by omega),?_⟩
  exact P U σ _ ((R.same s).put hi hl hU (Pf.app V9) ⟨_,join_some e1⟩) ((F.grow s).put hU _)
 ·cases e4
end
def UP (K:PySem.W.Frag) (a:Addr) (xs:List V):It:=⟨fun i H=>gN K H a xs /\ i < xs.length,fun i H x H'=>H'=H /\ xs[xs.length - 1 - i]?=some x,fun i _=>xs.length<=i⟩
theorem CK {P:Program} {w:World} {K:PySem.W.Frag} {tg:Expr} (a it:Addr) (xs:List V):Turn P w K tg (UP K a xs) [it] it (fun i h=>i<=xs.length /\ h.IsRevIter it a ((xs.length:Int) - 1 - (i:Int))) where
 mem:=by simp
 obj:=fun i h st b hb=>by
  have e:b=it:=by simpa using hb
  subst e
  obtain ⟨_,o,e,c,d⟩:=st
  exact ⟨o,e,fun v z=>by rw [d] at z; cases z⟩
 keep:=fun i h h' st k=>⟨st.1,st.2.at fun o e=>k it (by simp) o e⟩
 item:=by
  intro X hP hw hK hc i pins s σ H E I hf st hg
  subst hP hw hK
  obtain ⟨hq,hi⟩:=hg
  obtain ⟨its,rv,p,hz⟩:=I.list hq
  have hl:=rv.length
  obtain ⟨x,hx⟩:∃ x,xs[xs.length - 1 - i]?=some x:=⟨_,List.getElem?_eq_getElem (by omega)⟩
  obtain ⟨u,hu,ru⟩:=rv.get hx
  obtain ⟨f0,f1,f2,f3,f4,f5⟩:=hf it (by simp)
  have gn:=st.2
  have e:(xs.length:Int) - 1 - (i:Int)=((xs.length - 1 - i:Nat):Int):=by omega
  rw [e] at gn
  refine wpAny_pyNext_rev_item gn p.isList (x:=u) (by simpa using hu) fun h' nI sb=>?_
  have e2:((xs.length - 1 - i:Nat):Int) - 1=(xs.length:Int) - 1 - ((i + 1:Nat):Int):=by omega
  rw [e2] at nI
  have I1:Inv X pins σ H { s with heap:=h' }:=I.turned (t':=s.toks) (fun b o hb e=>(sb.2 b hb).trans e) f0 f1 f3 f4 f5
  obtain ⟨o,e,c,d⟩:=id nI
  exact ⟨u,rfl,uE (s:={ s with heap:=h' }) e c d (by decide) ⟨x,H,I1,ru,⟨rfl,hx⟩,⟨by omega,nI⟩,fun b hb=>(hf b hb).1⟩⟩
 done:=by
  intro X hP hw hK hc i pins s σ H E I hf st hg
  subst hP hw hK
  obtain ⟨f0,f1,f2,f3,f4,f5⟩:=hf it (by simp)
  have Pk:xs.length<=i:=hg
  have gn:=st.2
  have e:(xs.length:Int) - 1 - (i:Int)= -1:=by have:=st.1; omega
  rw [e] at gn
  exact wpAny_pyNext_rev_end (I.ok.hd hc) gn fun h' eb=>⟨rfl,I.turned (t':=s.toks) (fun b o hb e=>eb b o hb e) f0 f1 f3 f4 f5⟩
 self:=fun _ _ _ _ _ st h=>wpAny_pyIter_revIter st.2 h
theorem nO:bootBuiltins "reversed"=some (.type "reversed"):=by decide +kernel
section
variable {X:Cx} {O:List Nat} {tg a:Expr} {ge:DS->Option D} {p pos:Pos}
def Pm (K:PySem.W.Frag) (ta:TA):TI:=fun σ H R=>ta σ H fun vs H1=>∃ a xs,vs=[.ref a] /\ gN K H1 a xs /\ R (UP K a xs) H1
theorem JK {ta:TA} (hg:Gl X "reversed") (hm:X.mg "reversed"=none) (ha:PA X [a] ta) (hs:starEach [a] X.env=[(false,eval a X.env)]:=by rfl):PI X tg (.Call (.Name "reversed" p) [a] [] pos) (Pm X.K ta):=by
 intro pins s σ H R I h
 refine Call_ (fK I hg hm nO (PyProof.Rows.callWith_type1 (cO (ha pos pins s σ H _ I h) fun us s1 ⟨vs,H1,I1,r1,q1⟩=>?_) hs rfl))
 obtain ⟨b,xs,e,hq,q⟩:=q1
 subst e
 obtain ⟨u,rfl,ru⟩:=vals1 r1
 cases ru
 obtain ⟨its,rv,pl,hz⟩:=I1.list hq
 have hl:=rv.length
 refine call_reversed_list pl.isList ?_
 have it:(s1.heap.push (revObj b ((its.toArray.size:Int) - 1))).IsRevIter s1.heap.objs.size b ((its.toArray.size:Int) - 1):=⟨_,Heap.get?_push_size _ rfl,rfl,rfl⟩
 refine wpAny_pyIter_revIter it ?_
 refine ⟨s1.heap.objs.size,[s1.heap.objs.size],_,_,H1,rfl,I1.kept (t':=s1.toks) fun b o e=>Heap.get?_push_of_some _ e,CK b _ xs,⟨Nat.zero_le _,?_⟩,fun b hb=>?_,q⟩
 ·have e:(xs.length:Int) - 1 - ((0:Nat):Int)=(its.toArray.size:Int) - 1:=by rw [List.size_toArray,hl]; simp
  rw [e]; exact it
 ·have e:b=s1.heap.objs.size:=by simpa using hb
  subst e
  exact I1.lU (Nat.le_refl _) (I1.be.fresh (Nat.le_refl _))
def m9 (g:DS->Option D):DS->Option (List D):=fun δ=>(g δ).bind fun | .list l=>some l.reverse | _=>none
theorem uU (hm:X.mg "reversed"=none) (ha:PE X a (tE X.K O ge)) (hg:Gl X "reversed":=by rfl) (hs:starEach [a] X.env=[(false,eval a X.env)]:=by rfl) (CL:starEach ([]:List Expr) X.env=[]:=by rfl):PI X tg (.Call (.Name "reversed" p) [a] [] pos) (tI X.K O (m9 ge)):=
 (JK hg hm (bg ha cn (by rw [hs,CL])) hs).mono fun σ H Q hh=>hh.e fun U A0 δ ds R ed q=>by
  obtain ⟨x,e1,e2⟩:=bind1 ed
  cases x with
  | list l=>
    cases e2
    refine ⟨U,A0,δ,_,R,e1,fun v H' s h=>?_⟩
    cases h with
    | lst hq h=>
      refine ⟨_,_,rfl,(hq.same bq).sq,q _ H' s ?_⟩
      intro A' i H2 s2 _
      have h2:=h.same s2
      have hl:=h2.len
      refine ⟨fun d hd=>?_,fun hi=>by show _<=_; rw [hi,List.length_reverse]; omega⟩
      have hi:i < l.length:=by have:=(List.getElem?_eq_some_iff.mp hd).1; rwa [List.length_reverse] at this
      refine ⟨⟨((hq.same s2).same bq).sq,by omega⟩,fun y H3 hy=>?_⟩
      obtain ⟨rfl,hy⟩:=hy
      refine ⟨aA.refl _,?_⟩
      rw [List.getElem?_reverse hi,<- hl] at hd
      obtain ⟨z,hz,Wa⟩:=h2.get hd
      rw [hy] at hz; cases hz
      exact Wa
  | _=>cases e2
end
section
variable {X:Cx} {pins:List (Addr×Obj)} {σ:St} {H:Hp} {s:Shared} {h':Heap}
theorem Inv.iR {t':Nat} {ch:List Addr} (I:Inv X pins σ H s) (k:∀ b o,b∉ch->s.heap.get? b=some o->h'.get? b=some o) (hf:∀ b∈ch,n8 X pins H b):Inv X pins σ H { s with heap:=h',toks:=t' }:=by
 have LI:∀ b u,H b=some u->b∉ch:=fun b u e z=>by rw [(hf b z).1] at e; cases e
 refine I.step (g':=s.gens) (d':=s.drawn) (ch:=ch) (fun b hb=>?_) (fun b o _ _ hc e _=>k b o hc e) (fun b o _ _ hc e _=>⟨o.slots,k b o hc e⟩) (fun _ _ _ _ n=>n)
  (fun b o hc e=>⟨o,k b o hc e⟩) (fun _ _ e=>e) (fun _ _ _ e=>e) (fun b ps e=>⟨#[],by rw [e]; simp⟩) (fun m hm=>?_) (fun b u e=>?_) I.bare
 ·obtain ⟨_,a,_,b',c,d⟩:=hf b hb
  exact ⟨b',a,c,d⟩
 ·obtain ⟨o,es,ep,ho,r⟩:=hm
  exact ⟨o,es,ep,k _ o (fun z=>(hf _ z).2.1 rfl) ho,r⟩
 ·refine (I.be b u e).mJ (fun c v hc q=>k c v ?_ q) (fun _ q=>q) fun _ _ q=>q
  rcases hc with z | z
  ·rw [z]; exact LI b u e
  ·exact LI c _ z
theorem Inv.sr {D:Addr} {ys:List V} {its:List Value} (I:Inv X pins σ H s) (hD:H D=none) (hs:X.fm.heap.objs.size<=D) (hl:D≠X.env.locals) (hc:∀ x c,X.env.cells.lookup x=some c->c≠D)
  (hp:∀ p∈X.pn ++ pins,p.1≠D) (e:IsTup s.heap D its.toArray) (r:a4 ys its) (hz:ys.length<=sizeLine):Inv X pins σ (upd H D (.tup ys)) s:=by
 have h:=I.step (H':=upd H D (.tup ys)) (h':=s.heap) (g':=s.gens) (t':=s.toks) (d':=s.drawn) (ch:=[D]) (fun b hb=>by
   have e:b=D:=by simpa using hb
   subst e
   exact ⟨.inr hs,hl,hc,hp⟩)
  (fun b o _ _ _ q _=>q) (fun b o _ _ _ q _=>⟨o.slots,q⟩) (fun b o hb _ q=>by rw [aB (by simpa using hb)]; exact q) (fun b o _ q=>⟨o,q⟩)
  (fun b xs q=>by rw [aB (aP q hD)]; exact q) (fun b o u q=>by rw [aB (aP q hD)]; exact q) (fun b ps q=>⟨#[],by rw [aB (aP q hD),Array.append_empty]; exact q⟩) (fun m hm=>hm) (fun b u q=>?_) I.bare
 ·exact h
 ·by_cases hb:b=D
  ·subst hb
   rw [aZ] at q; cases q
   exact ⟨hz,its,r,e⟩
  ·rw [aB hb] at q
   exact (I.be b u q).mJ (fun _ _ _ z=>z) (fun c z=>by rw [aB (aP z hD)]; exact z) fun c xs z=>z.new hD
end
def UQ (K:PySem.W.Frag) (a:Addr):It:=
 ⟨fun i H=>∃ xs x,gN K H a xs /\ xs[i]?=some x,fun i H x H'=>∃ p v,H p=none /\ x=.ref p /\ H'=upd H p (.tup [.int i,v]) /\ ∀ xs,gN K H a xs->xs[i]?=some v,fun i H=>∃ xs,gN K H a xs /\ xs.length<=i⟩
theorem Au {P:Program} {w:World} {K:PySem.W.Frag} {es:List Expr} {kk} {ik:Pos} (a e it:Addr) (el:e≠it):Turn P w K (.Tuple es kk ik) (UQ K a) [e,it] e (fun i h=>(∃ old,IsEnum h e it i old) /\ h.IsListIter it a i) where
 mem:=by simp
 obj:=fun i h st b hb=>by
  obtain ⟨⟨old,he⟩,o,ho,c,d⟩:=st
  rcases List.mem_cons.mp hb with z | z
  ·subst z; exact ⟨_,he,fun v z=>by cases z⟩
  ·have z:b=it:=by simpa using z
   subst z; exact ⟨o,ho,fun v z=>by rw [d] at z; cases z⟩
 keep:=fun i h h' st k=>by
  obtain ⟨⟨old,he⟩,gn⟩:=st
  exact ⟨⟨old,k e (by simp) _ he⟩,gn.at fun o eo=>k it (by simp) o eo⟩
 item:=by
  intro X hP hw hK hc i pins s σ H E I hf st hg
  subst hP hw hK
  obtain ⟨xs,x,hq,hx⟩:=hg
  obtain ⟨its,rv,p,hz⟩:=I.list hq
  obtain ⟨u,hu,ru⟩:=rv.get hx
  obtain ⟨⟨old,he⟩,gn⟩:=st
  refine wpAny_pyNext_enum_item he gn p.isList (x:=u) (by simpa using hu) el fun h1 z0 Pn Li Bq FX=>?_
  refine ⟨_,rfl,wpAny_letOwnedTupleGo_enum z0 fun h2 CF kb=>?_⟩
  replace kb:Heap.SameBut e h1 h2:=kb
  have HS:e < s.heap.objs.size:=Heap.lt_size he
  have I1:Inv X pins σ H { s with heap:=h2,toks:=s.toks + 1 }:=I.iR (t':=s.toks + 1) (ch:=[e,it]) (fun b o hb eo=>by
   simp only [List.mem_cons,List.not_mem_nil,or_false,not_or] at hb
   exact (kb.2 b hb.1).trans (FX b o hb.1 hb.2 eo)) hf
  have JL:IsTup h2 s.heap.objs.size [Value.int i s.toks,u].toArray:=⟨_,(kb.2 _ (Nat.ne_of_gt HS)).trans Li,rfl,_,rfl⟩
  have jn:H s.heap.objs.size=none:=I.be.fresh (Nat.le_refl _)
  have fo:=I.lU (H':=H) (Nat.le_refl _) jn
  have I2:Inv X pins σ (upd H s.heap.objs.size (.tup [.int i,x])) { s with heap:=h2,toks:=s.toks + 1 }:=I1.sr jn (Nat.le_trans I.sz (Nat.le_refl _)) fo.2.1 fo.2.2.2.2.1 fo.2.2.2.2.2 JL (.cons ⟨_,rfl⟩ (.cons ru .nil)) (by show 2<=sizeLine; decide)
  refine ⟨.ref s.heap.objs.size,_,I2,rfl,⟨_,x,jn,rfl,rfl,fun ys hy=>by rw [I.lT hy hq]; exact hx⟩,⟨⟨u,CF⟩,Pn.extBut kb.extBut (Ne.symm el)⟩,fun b hb=>?_⟩
  have j4:b < s.heap.objs.size:=by
   rcases List.mem_cons.mp hb with z | z
   ·subst z; exact HS
   ·have z:b=it:=by simpa using z
    subst z
    obtain ⟨o,ho,_⟩:=gn
    exact Heap.lt_size ho
  rw [aB (Nat.ne_of_lt j4)]
  exact (hf b hb).1
 done:=by
  intro X hP hw hK hc i pins s σ H E I hf st hg
  subst hP hw hK
  obtain ⟨xs,hq,hx⟩:=hg
  obtain ⟨its,rv,p,hz⟩:=I.list hq
  obtain ⟨⟨old,he⟩,gn⟩:=st
  have hl:=rv.length
  refine wpAny_pyNext_enum_end (I.ok.hd hc) he gn p.isList (by simp; omega) fun h1 eb=>⟨rfl,?_⟩
  exact I.iR (t':=s.toks) (ch:=[e,it]) (fun b o hb eo=>eb b o (fun z=>hb (by simp [z])) eo) hf
 self:=fun _ _ _ _ _ st h=>by
  obtain ⟨⟨old,he⟩,_⟩:=st
  exact wpAny_pyIter_enum he h
theorem jH:bootBuiltins "enumerate"=some (.type "enumerate"):=by decide +kernel
def iy (l:List D):List D:=l.zipIdx.map fun p=>.tuple [.int (p.2:Nat),p.1]
theorem rn {l:List D} {i:Nat} {d:D} (h:(iy l)[i]?=some d):∃ x,l[i]?=some x /\ d=.tuple [.int (i:Nat),x]:=by
 unfold iy at h
 rw [List.getElem?_map,List.getElem?_zipIdx] at h
 cases e:l[i]? with
 | none=>rw [e] at h; cases h
 | some x=>rw [e] at h; simp at h; exact ⟨x,rfl,h.symm⟩
theorem kO {l:List D}:(iy l).length=l.length:=by unfold iy; simp
section
variable {X:Cx} {O:List Nat} {a:Expr} {ge:DS->Option D} {p pos:Pos} {es:List Expr} {kk} {ik:Pos}
def Mw (K:PySem.W.Frag) (ta:TA):TI:=fun σ H R=>ta σ H fun vs H1=>∃ a xs,vs=[.ref a] /\ gN K H1 a xs /\ R (UQ K a) H1
theorem FY {ta:TA} (hg:Gl X "enumerate") (hm:X.mg "enumerate"=none) (ha:PA X [a] ta) (hs:starEach [a] X.env=[(false,eval a X.env)]:=by rfl):PI X (.Tuple es kk ik) (.Call (.Name "enumerate" p) [a] [] pos) (Mw X.K ta):=by
 intro pins s σ H R I h
 refine Call_ (fK I hg hm jH (PyProof.Rows.callWith_type1 (cO (ha pos pins s σ H _ I h) fun us s1 ⟨vs,H1,I1,r1,q1⟩=>?_) hs rfl))
 obtain ⟨b,xs,e,hq,q⟩:=q1
 subst e
 obtain ⟨u,rfl,ru⟩:=vals1 r1
 cases ru
 obtain ⟨its,rv,pl,hz⟩:=I1.list hq
 refine call_enumerate_list pl.isList fun h' he hit hsz hk=>?_
 refine wpAny_pyIter_enum he ?_
 refine ⟨s1.heap.objs.size + 1,[s1.heap.objs.size + 1,s1.heap.objs.size],_,_,H1,rfl,I1.kept (t':=s1.toks) hk,Au b _ s1.heap.objs.size (Nat.succ_ne_self _),⟨⟨_,he⟩,hit⟩,fun b hb=>?_,q⟩
 have hle:s1.heap.objs.size<=b:=by
  simp only [List.mem_cons,List.not_mem_nil,or_false] at hb
  rcases hb with z | z
  ·rw [z]; exact Nat.le_succ _
  ·rw [z]; exact Nat.le_refl _
 exact I1.lU hle (I1.be.fresh hle)
def eO (g:DS->Option D):DS->Option (List D):=fun δ=>(g δ).bind fun | .list l=>some (iy l) | _=>none
theorem ma (hm:X.mg "enumerate"=none) (ha:PE X a (tE X.K O ge)) (hg:Gl X "enumerate":=by rfl) (hs:starEach [a] X.env=[(false,eval a X.env)]:=by rfl) (CL:starEach ([]:List Expr) X.env=[]:=by rfl):PI X (.Tuple es kk ik) (.Call (.Name "enumerate" p) [a] [] pos) (tI X.K O (eO ge)):=
 (FY hg hm (bg ha cn (by rw [hs,CL])) hs).mono fun σ H Q hh=>hh.e fun U A0 δ ds R ed q=>by
  obtain ⟨x,e1,e2⟩:=bind1 ed
  cases x with
  | list l=>
    cases e2
    refine ⟨U,A0,δ,_,R,e1,fun v H' s h=>?_⟩
    cases h with
    | lst hq h=>
      refine ⟨_,_,rfl,(hq.same bq).sq,q _ H' s ?_⟩
      intro A' i H2 s2 al
      have h2:=h.same s2
      have hL:gN X.K H2 _ _:=((hq.same s2).same bq).sq
      refine ⟨fun d hd=>?_,fun hi=>⟨_,hL,by rw [hi,kO,h2.len]; exact Nat.le_refl _⟩⟩
      obtain ⟨y,hy,rfl⟩:=rn hd
      obtain ⟨v,hv,Mx⟩:=h2.get hy
      refine ⟨⟨_,v,hL,hv⟩,fun z H3 hz=>?_⟩
      obtain ⟨p,v',hp,rfl,rfl,HU⟩:=hz
      have:=HU _ hL
      rw [hv] at this
      cases this
      exact ⟨bG hp _,HD.r9 al hp (.cons (.int _) (.cons Mx .nil))⟩
  | _=>cases e2
end
def WalksS (K:PySem.W.Frag) (A:List Addr) (H1:Hp) (J:It) (ds:List D):Prop:=∀ (i:Nat) (H:Hp),aA H1 H->
 (∀ d,ds[i]?=some d->J.go i H /\ ∀ x H2,J.LR i H x H2->aA H H2 /\ HD K (wo H2 A) x d) /\ (i=ds.length->J.stop i H)
def HV (K:PySem.W.Frag) (O:List Nat) (g:DS->Option (List D)):TI:=fun σ H R=>∃ U A0 δ ds,Rel K O U A0 σ δ H /\ g δ=some ds /\ ∀ J H1,aA H H1->WalksS K (U ++ A0) H1 J ds->R J H1
theorem HV.e {K:PySem.W.Frag} {O:List Nat} {g:DS->Option (List D)}  {σ:_} {H:_} {R:_} {GG:Prop} (hh:HV K O g σ H R) (kk:∀ U A0 δ ds,(Rel K O U A0 σ δ H)->(g δ=some ds)->(∀ J H1,aA H H1->WalksS K (U ++ A0) H1 J ds->R J H1)->GG):GG:=by obtain ⟨U,A0,δ,ds,x0,x1,x2⟩:=hh; exact kk U A0 δ ds x0 x1 x2
section
variable {X:Cx} {O:List Nat} {tg e:Expr} {gi:DS->Option (List D)} {ge:DS->Option D} {pos:Pos}
theorem PI.c (h:PI X tg e (tI X.K O gi)):PI X tg e (HV X.K O gi):=h.mono fun σ H Q hh=>hh.e fun U A0 δ ds R ed q=>⟨U,A0,δ,ds,R,ed,fun J H1 s hw=>q J H1 s fun i H2 s2=>hw (U ++ A0) i H2 (cC s2) ((R.same (s.trans s2)).al)⟩
end
section
variable {X:Cx} {O:List Nat} {fr:Fr} {scope:Scope} {x:Str} {elt iter:Expr} {px pos:Pos} {gi:DS->Option (List D)} {ge:DS->Option D}
end
end L2
namespace LS
open PySem PySem.Spec PyProof.Rows
section
variable {prog:Program} {w:World} {A:Around} {E:Value->Shared->Prop} {s:Shared} {it t:Addr} {i:Nat} {items:Array Value}
theorem xn {x:Value} {Q:Value->Shared->Prop} (hit:s.heap.IsTupleIter it t i) (ht:s.heap.IsTuple t items) (hx:items[i]?=some x)
  (hQ:∀ h',h'.IsTupleIter it t (i + 1)->Heap.SameBut it s.heap h'->Q x { s with heap:=h' }):wpAny (model prog w) A (Builtin.SmallTypes.nextOf (.ref it)) Q E s:=by
 obtain ⟨o,ho,hc,hd⟩:=id hit
 obtain ⟨ol,Br,_,nl,Po⟩:=ht
 unfold Builtin.SmallTypes.nextOf
 refine wpAny_bind (wpAny_callSpecial?_slot (name:=Str.ofString "__next__") hit.typeIs PySem.F.slot_tuple_iterator_next (wpAny_call_entry PySem.F.slot_tuple_iterator_next hit.typeIs PySem.F.entry_tuple_iterator_next ?_ (PySem.F.args_tuple_iterator_next_1 _)))
 show wpAny _ _ (field (.ref it) 0 >>= _) _ _ s
 refine wpAny_bind (wpAny_field ho hd (x:=.ref t) rfl ?_)
 show wpAny _ _ (if (Value.ref t == Value.none)=true then _ else _) _ _ s
 rw [if_neg (show ¬ ((Value.ref t == Value.none)=true) from Bool.false_ne_true)]
 show wpAny _ _ (field (.ref it) 1 >>= _) _ _ s
 refine wpAny_bind (wpAny_field ho hd (x:=.int i 0) rfl ?_)
 show wpAny _ _ (seqItems? (.ref t) >>= _) _ _ s
 refine wpAny_bind (wpAny_seqItems Br Po ?_)
 simp only [Int.toNat_natCast,hx]
 refine wpAny_bind (wpAny_setField ho hd (by simp) (wpAny_pure ⟨x,rfl,wpAny_pure (hQ _ ?_ (Heap.SameBut.update ..))⟩))
 exact ⟨_,Heap.get?_update_self _ ho (Obj.isFreed_of_fields (Obj.data_mapFields hd _)),(Obj.cls_mapFields ..).trans hc,by rw [Obj.data_mapFields hd]; simp [rawInt]⟩
theorem Av {Q:Value->Shared->Prop} (hh:A.handled=none) (hit:s.heap.IsTupleIter it t i) (ht:s.heap.IsTuple t items) (hx:items[i]?=none)
  (hE:∀ h' e,Heap.ExtBut it s.heap h'->(∃ o,h'.get? e=some o /\ o.cls=.type "StopIteration")->E (.ref e) { s with heap:=h' }):wpAny (model prog w) A (Builtin.SmallTypes.nextOf (.ref it)) Q E s:=by
 obtain ⟨o,ho,hc,hd⟩:=id hit
 obtain ⟨ol,Br,_,nl,Po⟩:=ht
 unfold Builtin.SmallTypes.nextOf
 refine wpAny_bind (wpAny_callSpecial?_slot (name:=Str.ofString "__next__") hit.typeIs PySem.F.slot_tuple_iterator_next (wpAny_call_entry PySem.F.slot_tuple_iterator_next hit.typeIs PySem.F.entry_tuple_iterator_next ?_ (PySem.F.args_tuple_iterator_next_1 _)))
 show wpAny _ _ (field (.ref it) 0 >>= _) _ _ s
 refine wpAny_bind (wpAny_field ho hd (x:=.ref t) rfl ?_)
 show wpAny _ _ (if (Value.ref t == Value.none)=true then _ else _) _ _ s
 rw [if_neg (show ¬ ((Value.ref t == Value.none)=true) from Bool.false_ne_true)]
 show wpAny _ _ (field (.ref it) 1 >>= _) _ _ s
 refine wpAny_bind (wpAny_field ho hd (x:=.int i 0) rfl ?_)
 show wpAny _ _ (seqItems? (.ref t) >>= _) _ _ s
 refine wpAny_bind (wpAny_seqItems Br Po ?_)
 simp only [Int.toNat_natCast,hx]
 refine wpAny_bind (wpAny_rule (wpAny_bind (wpAny_setField ho hd (by simp) ?_)))
 show wpAny _ _ (newExc (.type "StopIteration") [] >>= _) _ _ _
 refine wpAny_bind ?_
 simp only [newExc,newTuple]
 refine wpAny_bind (wpAny_newObj_type ?_ (by size_fits))
 refine wpAny_bind (m:=firstArgMember _ _) (wpAny_of_eq (a:=Value.none) (by first | rfl | (simp only [firstArgMember]; rfl)) ?_)
 refine wpAny_newObj_type ?_ (by size_fits)
 simp only [raiseNew]
 refine wpAny_bind (wpAny_handled ?_)
 first | rw [show A.in1.handled=none from hh] | rw [hh]
 refine wpAny_bind (wpAny_pure (wpAny_throw ?_))
 exact hE _ _ (((Heap.SameBut.update ..).extBut.push _).push _) ⟨_,Heap.get?_push_size _ rfl,rfl⟩
theorem iS (hh:A.handled=none) (it l:Addr) (el:l≠it) (items:Array Value):
  Draws prog w A it [it,l] items.size (fun i v=>items[i]?=some v) (fun i h=>h.IsTupleIter it l i /\ h.IsTuple l items) where
 live:=fun _ _ st=>let ⟨o,ho,_⟩:=st.1; ⟨o,ho⟩
 frame:=fun _ _ _ st hk=>⟨st.1.at fun o e=>hk it (by simp) o e,st.2.at fun o e=>hk l (by simp) o e⟩
 item:=fun i s Q E hi st hQ=>xn st.1 st.2 (x:=items[i]) (by simp [hi]) fun h' su ng=>hQ _ h' s.toks (by simp [hi]) ⟨su,st.2.extBut ng.extBut el⟩ ng
 done:=fun s Q E st hE=>Av hh st.1 st.2 (by simp) hE
end
set_option maxHeartbeats 1000000 in
set_option tactic.hygienic true in
theorem r9 (l:Addr) (items:Array Value) (n:Nat) (l8:Option Addr) (sl:Array (Option Value)):
  Meets (Builtin.«enumerate.__new__» ⟨[.type "enumerate",.ref l],[]⟩) (fun _ R s=>s.heap.get? l=some { cls:=.type "tuple",dict:=l8,data:=.seq items n,slots:=sl } /\
   R (.ok (.ret (.ref (s.heap.push { cls:=.type "tuple_iterator",data:=.fields #[.ref l,.int 0 0] }).objs.size)))
     { s with heap:=(s.heap.push { cls:=.type "tuple_iterator",data:=.fields #[.ref l,.int 0 0] }).push { cls:=.type "enumerate",data:=.fields #[.none,.bool false,.ref s.heap.objs.size,rawInt 0,.none,.none] } }):=
 .of_wp fun prog w A R s h=>by
  obtain ⟨hp,g,d,tk,os⟩:=s; obtain ⟨hl,h⟩:=h
  have uV:=sub_enumerate
  have hL:Heap.IsTuple (Shared.heap ⟨hp,g,d,tk,os⟩) l items:=⟨_,hl,rfl,n,rfl⟩
  wp_walk using AutoSeq1.wpAny_loadPart' hl
  refine wpAny_stack_any fun st=>wpAny_pure ?_
  split
  ·rename_i c _ _ _ _ _
   cases (c == Value.type "enumerate")
   ·wp_walk using AutoSeq1.wpAny_loadPart' hl,wpAny_pyIter_tuple hL
    exact ⟨_,rfl,h⟩
   ·wp_walk using AutoSeq1.wpAny_loadPart' hl,wpAny_pyIter_tuple hL
    exact ⟨_,rfl,h⟩
  ·wp_walk using AutoSeq1.wpAny_loadPart' hl,wpAny_pyIter_tuple hL
   exact ⟨_,rfl,h⟩
section
variable {prog:Program} {w:World} {A:Around} {E:Value->Shared->Prop} {s:Shared}
theorem xo {l:Addr} {items:Array Value} {Q:Value->Shared->Prop} (hL:s.heap.IsTuple l items)
  (h:∀ h',IsEnum h' (s.heap.objs.size + 1) s.heap.objs.size 0 .none->h'.IsTupleIter s.heap.objs.size l 0->h'.objs.size=s.heap.objs.size + 2->(∀ b o,s.heap.get? b=some o->h'.get? b=some o)->Q (.ref (s.heap.objs.size + 1)) { s with heap:=h' }):
  wpAny (model prog w) A (call (.type "enumerate") [.ref l]) Q E s:=by
 obtain ⟨⟨c,l8,dt,sl⟩,hl,hc,n,hd⟩:=hL
 simp only at hc hd
 subst hc hd
 refine callType_new PySem.F.called_enumerate (by decide) (PySem.F.typeCall_enumerate_1 _) (PySem.F.newCall_enumerate_1 _) (fun obj=>PySem.F.args_object_init_2 obj _) PySem.F.entry_enumerate_new (r9 l items n l8 sl) ⟨hl,?_⟩
 have hz:(s.heap.push { cls:=.type "tuple_iterator",data:=.fields #[.ref l,.int 0 0] }).objs.size=s.heap.objs.size + 1:=Heap.size_push ..
 show _ /\ _
 rw [hz]
 have he:IsEnum ((s.heap.push { cls:=.type "tuple_iterator",data:=.fields #[.ref l,.int 0 0] }).push { cls:=.type "enumerate",data:=.fields #[.none,.bool false,.ref s.heap.objs.size,rawInt 0,.none,.none] }) (s.heap.objs.size + 1) s.heap.objs.size 0 .none:=by
  have q:=Heap.get?_push_size (s.heap.push { cls:=.type "tuple_iterator",data:=.fields #[.ref l,.int 0 0] }) (o:={ cls:=.type "enumerate",data:=.fields #[.none,.bool false,.ref s.heap.objs.size,rawInt 0,.none,.none] }) rfl
  rw [hz] at q; exact q
 exact ⟨⟨_,he,rfl⟩,h _ he ⟨_,Heap.get?_push_of_some _ (Heap.get?_push_size _ rfl),rfl,rfl⟩ (by rw [Heap.size_push,hz]) fun b o x=>Heap.get?_push_of_some _ (Heap.get?_push_of_some _ x)⟩
end
end LS
namespace LS
open PySem
def ro (l:List Nat):Prop:=l.Pairwise (· < ·)
theorem kP {xs:Array Nat} (h:ro xs.toList) {a b:Nat} (Lj:a < b) (hb:b < xs.size) (d e:Nat):xs.getD a d < xs.getD b e:=by
 have ha:a < xs.size:=by omega
 have:=List.pairwise_iff_getElem.mp h a b (by simpa using ha) (by simpa using hb) Lj
 simpa [Array.getD,ha,hb] using this
theorem CM {xs:Array Nat} (hs:ro xs.toList) (j:Nat) (fuel:Nat):∀ (lo hi:Nat),hi - lo<=fuel->lo<=hi->hi<=xs.size->(∀ k,k < lo->xs.getD k 0 < j)->(∀ k,hi<=k->k < xs.size->j<=xs.getD k 0)->
  SetTable.below.go xs j fuel lo hi<=xs.size /\ (∀ k,k < SetTable.below.go xs j fuel lo hi->xs.getD k 0 < j) /\ ∀ k,SetTable.below.go xs j fuel lo hi<=k->k < xs.size->j<=xs.getD k 0:=by
 induction fuel with
 | zero=>
   intro lo hi h1 h2 h3 h4 h5
   have e:lo=hi:=Nat.le_antisymm h2 (Nat.le_of_sub_eq_zero (Nat.le_zero.mp h1))
   subst e
   exact ⟨h3,h4,h5⟩
 | succ fuel ih=>
   intro lo hi h1 h2 h3 h4 h5
   rw [SetTable.below.go]
   by_cases hl:lo < hi
   ·rw [if_pos hl]
    have a:lo<=(lo + hi) / 2 /\ (lo + hi) / 2 < hi:=by omega
    dsimp only
    generalize (lo + hi) / 2=m at a
    have hm:m < xs.size:=Nat.lt_of_lt_of_le a.2 h3
    have hg:xs.getD m j=xs.getD m 0:=by simp [Array.getD,hm]
    rw [hg]
    by_cases hc:xs.getD m 0 < j
    ·rw [if_pos hc]
     refine ih _ hi (by omega) a.2 h3 (fun k hk=>?_) h5
     rcases Nat.lt_or_eq_of_le (Nat.le_of_lt_succ hk) with q | q
     ·exact Nat.lt_trans (kP hs q hm 0 0) hc
     ·rw [q]; exact hc
    ·rw [if_neg hc]
     have hc:=Nat.le_of_not_lt hc
     refine ih lo _ (by omega) a.1 (Nat.le_of_lt hm) h4 (fun k hk Lk=>?_)
     rcases Nat.lt_or_eq_of_le hk with q | q
     ·exact Nat.le_trans hc (Nat.le_of_lt (kP hs q Lk 0 0))
     ·rw [<- q]; exact hc
   ·rw [if_neg hl]
    have e:lo=hi:=Nat.le_antisymm h2 (Nat.le_of_not_lt hl)
    subst e
    exact ⟨h3,h4,h5⟩
theorem below_at {xs:Array Nat} (hs:ro xs.toList) (j:Nat):SetTable.below xs j<=xs.size /\ (∀ k,k < SetTable.below xs j->xs.getD k 0 < j) /\ ∀ k,SetTable.below xs j<=k->k < xs.size->j<=xs.getD k 0:=
 CM hs j xs.size 0 xs.size (by omega) (Nat.zero_le _) (Nat.le_refl _) (fun k hk=>by omega) fun k h1 h2=>by omega
theorem oZ {xs:Array Nat} (hs:ro xs.toList) {i j:Nat} (hi:i<=xs.size) (h1:∀ k,k < i->xs.getD k 0 < j) (h2:∀ k,i<=k->k < xs.size->j<=xs.getD k 0):SetTable.below xs j=i:=by
 obtain ⟨a,b,c⟩:=below_at hs j
 rcases Nat.lt_trichotomy (SetTable.below xs j) i with h | h | h
 ·have:=h1 _ h
  have:=c _ (Nat.le_refl _) (by omega)
  omega
 ·exact h
 ·have:=b i h
  have:=h2 i (Nat.le_refl _) (by omega)
  omega
theorem CN {xs:Array Nat} (hs:ro xs.toList) {j:Nat} (h:xs[SetTable.below xs j]?≠some j):j∉xs.toList:=by
 intro hm
 obtain ⟨k,hk,e⟩:=List.getElem_of_mem hm
 have Lk:k < xs.size:=by simpa using hk
 have ek:xs.getD k 0=j:=by simpa [Array.getD,Lk] using e
 have:SetTable.below xs j=k:=oZ hs (Nat.le_of_lt Lk) (fun i hi=>by rw [<- ek]; exact kP hs hi Lk 0 0) (fun i h1 h2=>by
  by_cases HL:k=i
  ·subst HL; omega
  ·have:=kP hs (show k < i by omega) h2 0 0
   omega)
 rw [this] at h
 refine h ?_
 rw [Array.getElem?_eq_getElem Lk]
 simpa using e
theorem FZ {t:SetTable} (hs:ro t.place.toList) {j:Nat} (h:t.place[SetTable.below t.place j]?≠some j):ro (t.put j).1.place.toList:=by
 have hn:=CN hs h
 obtain ⟨a,b,c⟩:=below_at hs j
 show ro (SetTable.insertAt t.place (SetTable.below t.place j) j).toList
 rw [SetTable.toList_insertAt]
 have ng:(t.place.toList.take (SetTable.below t.place j) ++ t.place.toList.drop (SetTable.below t.place j)).Pairwise (· < ·):=by rw [List.take_append_drop]; exact hs
 rw [List.pairwise_append] at ng
 refine List.pairwise_append.mpr ⟨ng.1,List.pairwise_cons.mpr ⟨fun x hx=>?_,ng.2.1⟩,fun x hx y hy=>?_⟩
 ·obtain ⟨k,hk,e⟩:=List.getElem_of_mem hx
  rw [List.getElem_drop] at e
  have F0:SetTable.below t.place j + k < t.place.size:=by
   have:=List.length_drop (i:=SetTable.below t.place j) (l:=t.place.toList)
   have N1:=hk
   rw [this] at N1
   simp at N1
   omega
  have:=c (SetTable.below t.place j + k) (by omega) F0
  have e2:t.place.getD (SetTable.below t.place j + k) 0=x:=by simpa [Array.getD,F0] using e
  have el:x≠j:=fun z=>hn (by rw [<- z]; exact List.mem_of_mem_drop hx)
  omega
 ·obtain ⟨k,hk,e⟩:=List.getElem_of_mem hx
  have F0:k < SetTable.below t.place j:=by
   have:=List.length_take (i:=SetTable.below t.place j) (l:=t.place.toList)
   omega
  have N1:k < t.place.size:=by omega
  rw [List.getElem_take] at e
  have e2:t.place.getD k 0=x:=by simpa [Array.getD,N1] using e
  have UR:=b k F0
  rw [e2] at UR
  rcases List.mem_cons.mp hy with z | z
  ·rw [z]; exact UR
  ·exact ng.2.2 x hx y z
set_option tactic.hygienic true in
theorem lr {t:SetTable} {f:Nat->Int} {h:Int}:∀ {fuel:Nat} {p:SetTable.Probe} {j:Nat} {dm:Option Nat},(∀ d,p.dummy=some d->t.place[SetTable.below t.place d]?≠some d)->
  SetTable.probe.go t f h fuel p=some (.empty j dm)->t.place[SetTable.below t.place (dm.getD j)]?≠some (dm.getD j)
 | 0,p,j,dm,_,e=>by cases e
 | fuel + 1,p,j,dm,hd,e=>by
   have US:∀ q:SetTable.Probe,(t.advance q).dummy=q.dummy:=fun q=>by unfold SetTable.advance; split <;> rfl
   rw [SetTable.probe.go] at e
   have nl:∀ i,t.slot i=.empty \/ t.slot i=.dummy->t.place[SetTable.below t.place i]?≠some i:=by
    intro i hi z
    unfold SetTable.slot at hi
    dsimp only at hi
    rw [z] at hi
    simp at hi
   split at e
   ·rename_i hs
    cases e
    cases hp:p.dummy with
    | none=>exact nl _ (.inl hs)
    | some d=>exact hd d hp
   ·rename_i hs
    refine lr (fun d Bl=>?_) e
    rw [US] at Bl
    cases Bl
    exact nl _ (.inr hs)
   ·split at e
    ·cases e
    ·exact lr (fun d Bl=>hd d (by rw [US] at Bl; exact Bl)) e
theorem kQ (n:Nat):ro (Array.range n).toList:=by rw [Array.toList_range]; exact List.pairwise_lt_range
theorem qp {t:SetTable} {n:Nat} (h:ro t.place.toList):ro (t.orStandIn n).place.toList /\ (t.orStandIn n).led=t.led:=by
 unfold SetTable.orStandIn
 split
 ·exact ⟨h,rfl⟩
 ·exact ⟨kQ n,rfl⟩
set_option tactic.hygienic true in
theorem xp {t:SetTable} {es:Array (Int×Value)} {h:Int} {x:Value} (hs:ro t.place.toList):ro (layNew t es h x).2.1.place.toList /\ (layNew t es h x).2.1.led=t.led:=by
 unfold layNew
 split
 ·rename_i slot wd e
  unfold SetTable.freeSlot at e
  split at e
  ·rename_i j dm ep
   cases e
   have:=lr (t:=t) (fun d z=>by cases z) ep
   obtain ⟨a,b⟩:=qp (n:=(SetTable.insertAt es (t.put (dm.getD j)).2 (h,x)).size) (FZ hs this)
   exact ⟨a,b⟩
  ·cases e
 ·exact ⟨kQ _,rfl⟩
set_option tactic.hygienic true in
theorem sv {t:SetTable} {es:Array (Int×Value)} {n:Nat}:ro (relayAll t es n).2.1.place.toList /\ (relayAll t es n).2.1.led=t.led:=by
 unfold relayAll
 split
 ·rename_i t' order e
  dsimp only
  split
  ·unfold SetTable.relaid SetTable.laid at e
   obtain ⟨owner,_,e2⟩:=Option.bind_eq_some_iff.mp e
   cases e2
   refine ⟨?_,rfl⟩
   show ro (List.map _ _)
   refine List.pairwise_map.mpr (List.pairwise_filterMap.mpr ?_)
   refine List.pairwise_lt_range.imp fun {a b} Lj x hx y hy=>?_
   cases ea:owner.getD a none with
   | none=>rw [ea] at hx; cases hx
   | some u=>
     cases eb:owner.getD b none with
     | none=>rw [eb] at hy; cases hy
     | some v=>
       rw [ea] at hx; rw [eb] at hy
       cases hx; cases hy
       exact Lj
  ·exact ⟨kQ _,rfl⟩
 ·exact ⟨kQ _,rfl⟩
end LS
namespace LS
open PySem PyProof.Rows
def iv:Value->Int
 | .int n _=>n
 | _=>0
theorem c8:∀ {vs:List Value} {ns:List Int},IntsAre vs ns↔(∀ v∈vs,∃ n t,v=.int n t) /\ ns=vs.map iv
 | [],ns=>⟨fun h=>by cases h; exact ⟨fun v hv=>by simp at hv,rfl⟩,fun ⟨_,h⟩=>by subst h; exact .nil⟩
 | v :: vs,ns=>⟨fun h=>by
     cases h with
     | cons n t h=>
       obtain ⟨h1,h2⟩:=c8.mp h
       refine ⟨fun u hu=>?_,by rw [h2]; rfl⟩
       rcases List.mem_cons.mp hu with z | z
       ·exact ⟨n,t,z⟩
       ·exact h1 u z,fun ⟨h1,h2⟩=>by
     obtain ⟨n,t,rfl⟩:=h1 v List.mem_cons_self
     subst h2
     exact .cons n t (c8.mpr ⟨fun u hu=>h1 u (List.mem_cons_of_mem _ hu),rfl⟩)⟩
theorem nh {vs Pp:List Value} {ns:List Int} (h:IntsAre vs ns) (p:Pp.Perm vs):∃ lQ,IntsAre Pp lQ /\ lQ.Perm ns:=by
 obtain ⟨h1,h2⟩:=c8.mp h
 exact ⟨Pp.map iv,c8.mpr ⟨fun v hv=>h1 v (p.mem_iff.mp hv),rfl⟩,by rw [h2]; exact p.map iv⟩
def jo (prog:Program) (w:World) (h:Heap) (a:Addr) (led:Bool) (ns:List Int):Prop:=∃ o es ep t,h.get? a=some o /\ o.ExactSet /\ o.data=.set es ep t /\ ElemsOf (intKind prog w) es.toList /\
 IntsAre (es.toList.map (·.2)) ns /\ ns.Nodup /\ es.size < scanBound /\ t.fits es.size=true /\ t.led=led /\ ro t.place.toList
section
variable {prog:Program} {w:World} {A:Around} {E:Value->Shared->Prop} {s:Shared} {a:Addr} {led:Bool} {ns:List Int}
theorem jo.keeps {h h':Heap} (x:jo prog w h a led ns) (k:∀ o,h.get? a=some o->h'.get? a=some o):jo prog w h' a led ns:=by
 obtain ⟨o,es,ep,t,ho,r⟩:=x
 exact ⟨o,es,ep,t,k o ho,r⟩
theorem uW {h:Heap} {o:Obj} {es:Array (Int×Value)} {ep:Nat} {t:SetTable} (ho:h.get? a=some o) (hex:o.ExactSet) (hd:o.data=.set es ep t) {uq:Array (Int×Value)} {t':SetTable} {lQ:List Int}
  (h1:ElemsOf (intKind prog w) uq.toList) (h2:IntsAre (uq.toList.map (·.2)) lQ) (h3:lQ.Nodup) (h4:uq.size < scanBound) (h5:t'.fits uq.size=true) (h6:t'.led=led) (h7:ro t'.place.toList):
  (h.update a (Obj.putSet uq t')).get? a=some { o with data:=.set uq (ep + 1) t' } /\ jo prog w (h.update a (Obj.putSet uq t')) a led lQ:=by
 have hg:(h.update a (Obj.putSet uq t')).get? a=some { o with data:=.set uq (ep + 1) t' }:=by
  have q:=Heap.get?_update_self (Obj.putSet uq t') ho (by rw [putSet_of uq t' hd]; rfl)
  rwa [putSet_of uq t' hd] at q
 exact ⟨hg,_,uq,ep + 1,t',hg,hex,rfl,h1,h2,h3,h4,h5,h6,h7⟩
theorem rp {g:Bool->Sem Unit} (hg:∀ (b:Bool) (bf:Shared) (Q':Unit->Shared->Prop),Q' () bf->wpAny (model prog w) A (g b) Q' E bf) {o:Obj} {es:Array (Int×Value)} {ep:Nat} {t:SetTable}
  (ho:s.heap.get? a=some o) (hex:o.ExactSet) (hd:o.data=.set es ep t) {og:Array (Int×Value)} {t2:SetTable} {JM:List Int} (h1:ElemsOf (intKind prog w) og.toList) (h2:IntsAre (og.toList.map (·.2)) JM) (h3:JM.Nodup) (h4:og.size < scanBound)
  (h5:t2.fits og.size=true) (h6:t2.led=led) (h7:ro t2.place.toList) {wd:Bool} {R:Option Bool->Shared->Prop}
  (h:∀ h' lQ,Heap.SameBut a s.heap h'->jo prog w h' a led lQ->lQ.Perm JM->R (some true) { s with heap:=h' }):
  wpAny (model prog w) A (do
    storeSet a og t2
    if (!wd && t2.tooFull)=true then do
        g (relayAll t2 og (SetTable.grown og.size)).2.2
        storeSet a (relayAll t2 og (SetTable.grown og.size)).1 (relayAll t2 og (SetTable.grown og.size)).2.1
        pure (some true)
     else pure (some true)) R E s:=by
 refine wpAny_bind (wpAny_storeSet_of ho hd ?_ (fits_of_scanBound h4))
 obtain ⟨mH,S1⟩:=uW (led:=led) ho hex hd h1 h2 h3 h4 h5 h6 h7
 have b1:=Heap.SameBut.update s.heap a (Obj.putSet og t2)
 split
 ·have hp:=relayAll_perm t2 og (SetTable.grown og.size)
  have hf:=relayAll_fits t2 og (SetTable.grown og.size)
  obtain ⟨hr,hl⟩:=sv (t:=t2) (es:=og) (n:=SetTable.grown og.size)
  generalize relayAll t2 og (SetTable.grown og.size)=Z at hp hf hr hl ⊢
  obtain ⟨N2,t3,Pq⟩:=Z
  dsimp only at hp hf hr hl ⊢
  obtain ⟨Wb,i2,p2⟩:=nh h2 (hp.map (·.2))
  have hz:N2.size=og.size:=by rw [<- Array.length_toList,hp.length_eq,Array.length_toList]
  have b2:N2.size < scanBound:=by rw [hz]; exact h4
  refine wpAny_bind (hg _ _ _ (wpAny_bind (wpAny_storeSet_of mH rfl ?_ (fits_of_scanBound b2))))
  obtain ⟨_,S2⟩:=uW (led:=led) mH hex rfl (h1.perm hp) i2 (p2.nodup_iff.mpr h3) b2 hf (hl.trans h6) hr
  exact wpAny_pure (h _ Wb (b1.trans (Heap.SameBut.update _ a _)) S2 p2)
 ·exact wpAny_pure (h _ JM b1 S1 (.refl _))
theorem uX {es:List (Int×Value)} {i:Int} (h:IntsAre (es.map (·.2)) ns):i∈ns↔∃ e∈es,Value.isInt i e.2=true:=by
 obtain ⟨h1,h2⟩:=c8.mp h
 subst h2
 constructor
 ·intro hm
  obtain ⟨v,hv,e⟩:=List.mem_map.mp hm
  obtain ⟨x,hx,rfl⟩:=List.mem_map.mp hv
  obtain ⟨n,t,q⟩:=h1 _ hv
  rw [q] at e
  cases e
  exact ⟨x,hx,by rw [q]; simp [Value.isInt,iv]⟩
 ·rintro ⟨e,he,q⟩
  obtain ⟨t,z⟩:=Value.isInt_shape q
  exact List.mem_map.mpr ⟨e.2,List.mem_map.mpr ⟨e,he,rfl⟩,by rw [z]; rfl⟩
theorem CO {i:Int} {tk:Tok} {Q:Bool->Shared->Prop} (hS:jo prog w s.heap a led ns) (room:ns.length + 1 < scanBound)
  (h:∀ h' lQ b,Heap.SameBut a s.heap h'->jo prog w h' a led lQ->(∀ k,k∈lQ↔k∈ns \/ k=i)->lQ.length<=ns.length + 1->Q b { s with heap:=h' }):
  wpAny (model prog w) A (setAddHashed a (.int i tk) (hashInt i)) Q E s:=by
 obtain ⟨o,es,ep,t,ho,hex,hd,h1,h2,h3,h4,h5,h6,h7⟩:=hS
 have hlen:ns.length=es.size:=by
  obtain ⟨_,e⟩:=c8.mp h2
  rw [e]; simp
 have hk:(intKind prog w).is i (.int i tk)=true:=intKind_is prog w i tk
 have Pr:(Value.int i tk).scannable=true:=rfl
 unfold setAddHashed setAddHashedIn
 refine wpAny_holding (wpAny_bind (wpAny_setState_of ho hd h5 ?_))
 dsimp only
 rw [byScan_of Pr h4 h1]
 simp only [↓reduceIte]
 unfold setAddByScan
 refine wpAny_bind (wpAny_bind (wpAny_rule (wpAny_bind (wpAny_setScan_of (knd:=intKind prog w) (k:=i) hk ho hd h5 h1 ?_))))
 cases hf:List.findIdx? (fun e=>(intKind prog w).is i e.2) es.toList with
 | some j=>
   dsimp only
   obtain ⟨hj,Wc,_⟩:=List.findIdx?_eq_some_iff_getElem.mp hf
   have hm:i∈ns:=(uX h2).mpr ⟨_,List.getElem_mem hj,Wc⟩
   refine wpAny_pure (wpAny_pure ?_)
   have q:=h s.heap ns false (Heap.SameBut.refl a s.heap) ⟨o,es,ep,t,ho,hex,hd,h1,h2,h3,h4,h5,h6,h7⟩ (fun k=>⟨.inl,fun z=>z.elim id fun e=>e ▸ hm⟩) (Nat.le_succ _)
   exact q
 | none=>
   dsimp only
   have hn:i∉ns:=fun hm=>by
    obtain ⟨e,he,q⟩:=(uX h2).mp hm
    have z:=List.findIdx?_eq_none_iff.mp hf e he
    rw [show (intKind prog w).is i e.2=true from q] at z
    cases z
   have gw:∀ (b:Bool) {bf:Shared} {Q':Unit->Shared->Prop},Q' () bf->wpAny (model prog w) A (match b with | true=>rule "set.scan.the-table-gave-way" | false=>pure ()) Q' E bf:=
    fun b bf Q' hq=>by cases b <;> first | exact wpAny_pure hq | exact wpAny_rule hq
   have hp:=layNew_perm t es (hashInt i) (.int i tk)
   have My:=layNew_fits t es (hashInt i) (.int i tk)
   obtain ⟨hr,hl⟩:=xp (t:=t) (es:=es) (h:=hashInt i) (x:=.int i tk) h7
   generalize layNew t es (hashInt i) (.int i tk)=Z at hp My hr hl ⊢
   obtain ⟨og,t1,wd,Pq⟩:=Z
   dsimp only at hp My hr hl ⊢
   rw [Array.toList_push] at hp
   have e1:ElemsOf (intKind prog w) og.toList:=(h1.push hk Pr).perm hp
   have i0:IntsAre ((es.toList ++ [(hashInt i,Value.int i tk)]).map (·.2)) (ns ++ [i]):=by
    obtain ⟨x1,x2⟩:=c8.mp h2
    refine c8.mpr ⟨fun v hv=>?_,by rw [x2]; simp [iv]⟩
    rw [List.map_append] at hv
    rcases List.mem_append.mp hv with z | z
    ·exact x1 v z
    ·simp at z; exact ⟨i,tk,z⟩
   obtain ⟨JM,i1,p1⟩:=nh i0 (hp.map (·.2))
   have nd:JM.Nodup:=p1.nodup_iff.mpr (by
    rw [List.nodup_append]
    exact ⟨h3,by simp,fun x hx y hy=>by simp at hy; rw [hy]; exact fun z=>hn (z ▸ hx)⟩)
   have hz:og.size=es.size + 1:=by rw [<- Array.length_toList,hp.length_eq,List.length_append,Array.length_toList]; rfl
   have b1:og.size < scanBound:=by omega
   have fin:∀ h' lQ,Heap.SameBut a s.heap h'->jo prog w h' a led lQ->lQ.Perm JM->Q true { s with heap:=h' }:=fun h' lQ sb S p=>by
    refine h h' lQ true sb S (fun k=>?_) ?_
    ·rw [p.mem_iff,p1.mem_iff]; simp
    ·rw [p.length_eq,p1.length_eq]; simp
   refine wpAny_bind (gw _ ?_)
   split
   ·rw [hashByValue_scannable 8 Pr]
    refine wpAny_bind (wpAny_pure ?_)
    refine rp (led:=led) ?_ ho hex hd e1 i1 nd b1 ?_ ?_ ?_ fun h' lQ sb S p=>?_
    ·intro b bf Q' hq; cases b <;> first | exact wpAny_pure hq | exact wpAny_rule hq
    ·split
     ·exact My
     ·exact SetTable.fits_plain_off My
    ·split <;> exact hl.trans h6
    ·split <;> exact hr
    ·dsimp only; exact wpAny_pure (fin h' lQ sb S p)
   ·refine wpAny_bind (wpAny_pure ?_)
    simp only [↓reduceIte]
    refine rp (led:=led) ?_ ho hex hd e1 i1 nd b1 My (hl.trans h6) hr fun h' lQ sb S p=>?_
    ·intro b bf Q' hq; cases b <;> first | exact wpAny_pure hq | exact wpAny_rule hq
    ·dsimp only; exact wpAny_pure (fin h' lQ sb S p)
end
end LS
namespace LS
open PySem PySem.Spec PyProof.Rows
section
variable {prog:Program} {w:World} {A:Around} {E:Value->Shared->Prop} {s:Shared}
abbrev kl (w:World):Bool:= !w.params.followText "set-order"
abbrev fZ (w:World):Obj:={ cls:=.type "set",dict:=none,data:=.set #[] 0 (.fresh 0 0 (kl w)) }
theorem Aw {h:Heap} {a:Addr} (e:h.get? a=some (fZ w)):jo prog w h a (kl w) []:=
 ⟨_,#[],0,_,e,⟨rfl,rfl,rfl⟩,rfl,fun x hx=>by simp at hx,.nil,.nil,by decide,rfl,rfl,List.Pairwise.nil⟩
theorem F4 (a:Value) {Q₁:Value->Shared->Prop} (h:Q₁ (.ref s.heap.objs.size) { s with heap:=s.heap.push (fZ w) }):
  codeAny (model prog w) A (.call (.builtin "set.__new__") ⟨[.type "set",a],[]⟩) (wants Q₁ E) s:=by
 refine codeAny_of_tree ?_
 show wpAny _ A.in1 (checkBuiltinCall "set.__new__" ⟨[.type "set",a],[]⟩ >>= fun _=>again (.builtin "set.__new__" ⟨[.type "set",a],[]⟩)) _ _ s
 refine wpAny_bind (wpAny_of_eq (PySem.F.newCall_set_1 a) (wpAny_pure ⟨plainId_quiet PySem.F.plain_set_new _,codeAny_builtin PySem.F.entry_set_new ?_⟩))
 rw [Around.under_plainId PySem.F.plain_set_new _]
 unfold Builtin.«set.__new__» Builtin.Frozenset.newClass
 have uV:=sub_set_self
 obtain ⟨hp,g,d,tk,os⟩:=s
 dsimp only
 wp_walk
 refine wpAny_askSetting (wpAny_pure ?_)
 dsimp only
 simp only [newObj]
 exact wpAny_bind (wpAny_alloc (wpAny_pure (wpAny_pure h)))
end
section
variable {prog:Program} {w:World} {A:Around} {R:Result->Shared->Prop} {I:Addr} {fp wr:List Addr} {G:Array GenState->Array GenState->Prop} {n:Nat} {P:Nat->Value->Prop} {St:Nat->Shared->Prop} {led:Bool}
theorem CP (W:WalksS prog w A.in1 I fp wr G n P St) (S:Addr) (F5:S∉fp) (val:Nat->Int) (F6:∀ i v,P i v->∃ t,v=.int (val i) t) (hb:n + 1 < scanBound):
  ∀ (k i:Nat) (s:Shared) (ns:List Int),n - i=k->i<=n->St i s->jo prog w s.heap S led ns->ns.length<=i->(∀ x,x∈ns↔∃ j,j < i /\ val j=x)->
    (∀ s' lQ,Moved (S :: wr) G s s'->jo prog w s'.heap S led lQ->lQ.length<=n->(∀ x,x∈lQ↔∃ j,j < n /\ val j=x)->R (.ok (.ret .none)) s')->
    codeAny (model prog w) A (.builtin "set.update.loop" ⟨[.ref S,.ref I],[]⟩) R s:=by
 have UT:S∉wr:=fun h=>F5 (W.sub _ h)
 have uV:∀ b∈wr,b∈S :: wr:=fun b hb=>List.mem_cons_of_mem _ hb
 intro k
 induction k with
 | zero=>
   intro i s ns hk hi st hS hl hm hR
   have HW:i=n:=by omega
   subst HW
   refine codeAny_builtin PyProof.Rows.F.entry_set_update_loop ?_
   rw [Around.under_plainId PyProof.Rows.F.plain_set_update_loop _]
   show wpAny _ A.in1 (pyNext (.ref I) >>= _) _ _ s
   refine wpAny_bind (W.done s _ _ st fun s' mv=>?_)
   show wpAny _ A.in1 (ret Value.none) _ _ s'
   exact wpAny_pure (hR s' ns (mv.mono uV) (hS.keeps fun o e=>mv.heap S o UT e) hl hm)
 | succ k ih=>
   intro i s ns hk hi st hS hl hm hR
   have j4:i < n:=by omega
   refine codeAny_builtin PyProof.Rows.F.entry_set_update_loop ?_
   rw [Around.under_plainId PyProof.Rows.F.plain_set_update_loop _]
   show wpAny _ A.in1 (pyNext (.ref I) >>= _) _ _ s
   refine wpAny_bind (W.item i s _ _ j4 st fun v s' hP nI mv=>?_)
   obtain ⟨t,rfl⟩:=F6 i v hP
   have F7:jo prog w s'.heap S led ns:=hS.keeps fun o e=>mv.heap S o UT e
   show wpAny _ A.in1 (holding [Value.int (val i) t] (setAdd S (.int (val i) t)) >>= _) _ _ s'
   refine wpAny_bind (wpAny_holding ?_)
   unfold setAdd
   refine wpAny_holding (wpAny_bind ((intKind prog w).pyHash (k:=val i) (intKind_is _ _ _ _) ?_))
   refine CO (s:={ s' with toks:=s'.toks + 1 }) F7 (by omega) fun h' lQ b sb S2 F8 xf=>?_
   refine wpAny_pure ⟨plainId_quiet PyProof.Rows.F.plain_set_update_loop _,ih (i + 1) _ lQ (by omega) j4 (W.frame _ s' _ _ nI (Nat.le_succ _) fun b hb o e=>?_) S2 (by omega) (fun x=>?_) fun Fi Pt Pu S3 l3 m3=>?_⟩
   ·rw [sb.2 b (fun z:b=S=>F5 (by rw [<- z]; exact hb))]; exact e
   ·rw [F8,hm]
    constructor
    ·rintro (⟨j,hj,e⟩ | e)
     ·exact ⟨j,by omega,e⟩
     ·exact ⟨i,by omega,e.symm⟩
    ·rintro ⟨j,hj,e⟩
     by_cases Wd:j=i
     ·subst Wd; exact .inr e.symm
     ·exact .inl ⟨j,by omega,e⟩
   ·refine hR Fi Pt (Moved.trans W.gtrans ((mv.mono uV).then_heap (Nat.le_succ _) fun b o hb e=>?_) Pu) S3 l3 m3
    rw [sb.2 b (fun z:b=S=>hb (by rw [z]; exact List.mem_cons_self))]; exact e
end
section
variable {prog:Program} {w:World} {A:Around} {E:Value->Shared->Prop} {s:Shared}
structure xq (prog:Program) (w:World) (h:Heap) (r:Addr) (items:Array Value) (T:String) (oI:Obj) (St:Addr->Nat->Heap->Prop):Prop where
 ty:∃ o,h.get? r=some o /\ o.cls=.type T
 JN:isSubtype (.type T) (.type "set")=pure false
 JO:isSubtype (.type T) (.type "frozenset")=pure false
 nd:(Value.type T == Value.type "dict")=false
 iter:∀ (A':Around) (s':Shared) (Q:Value->Shared->Prop) (E:Value->Shared->Prop),(∀ o,h.get? r=some o->s'.heap.get? r=some o)->Q (.ref s'.heap.objs.size) { s' with heap:=s'.heap.push oI }->wpAny (model prog w) A' (pyIter (.ref r)) Q E s'
 walk:∀ (A':Around) (I:Addr),A'.handled=none->r≠I->Walks prog w A' I [I,r] [I] items.size (fun i v=>items[i]?=some v) (St I)
 st:∀ h':Heap,(∀ o,h.get? r=some o->h'.get? r=some o)->St h'.objs.size 0 (h'.push oI)
theorem src_list {h:Heap} {l:Addr} {items:Array Value} (hl:h.IsList l items):xq prog w h l items "list" { cls:=.type "list_iterator",data:=.fields #[.ref l,.int 0 0] } (fun I i h=>h.IsListIter I l i /\ h.IsList l items) where
 ty:=let ⟨o,e,c,_⟩:=hl; ⟨o,e,c⟩
 JN:=PySem.F.sub_list_set
 JO:=PySem.F.sub_list_frozenset
 nd:=by decide
 iter:=fun A' s' Q E k q=>wpAny_pyIter_list (hl.at k) q
 walk:=fun A' I hh el=>Walks.list hh I l el items
 st:=fun h' k=>⟨⟨_,Heap.get?_push_size _ rfl,rfl,rfl⟩,(hl.at k).push _⟩
theorem src_tuple {h:Heap} {l:Addr} {items:Array Value} (hl:h.IsTuple l items):xq prog w h l items "tuple" { cls:=.type "tuple_iterator",data:=.fields #[.ref l,.int 0 0] } (fun I i h=>h.IsTupleIter I l i /\ h.IsTuple l items) where
 ty:=let ⟨o,e,c,_⟩:=hl; ⟨o,e,c⟩
 JN:=by rw [isSubtype_type]; kernel_rfl
 JO:=by rw [isSubtype_type]; kernel_rfl
 nd:=by decide
 iter:=fun A' s' Q E k q=>wpAny_pyIter_tuple (hl.at k) q
 walk:=fun A' I hh el=>Walks.tuple hh I l el items
 st:=fun h' k=>⟨⟨_,Heap.get?_push_size _ rfl,rfl,rfl⟩,(hl.at k).push _⟩
set_option maxHeartbeats 3200000 in
theorem uY {r:Addr} {items:Array Value} {ms:List Int} {T:String} {oI:Obj} {St:Addr->Nat->Heap->Prop} {Q:Value->Shared->Prop} (hh:A.handled=none) (src:xq prog w s.heap r items T oI St) (hi:IntsAre items.toList ms) (hb:items.size + 1 < scanBound)
  (h:∀ (h':Heap) (tk:Nat) (ns:List Int),jo prog w h' s.heap.objs.size (kl w) ns->(∀ x,x∈ns↔x∈ms)->ns.length<=ms.length->(∀ b o,s.heap.get? b=some o->h'.get? b=some o)->Q (.ref s.heap.objs.size) { s with heap:=h',toks:=tk }):
  wpAny (model prog w) A (call (.type "set") [.ref r]) Q E s:=by
 obtain ⟨c,tl,We⟩:=PySem.F.called_set.mro
 have UU:=PySem.F.called_set.made
 have uV:=PySem.F.called_set.sub
 refine wpAny_call (codeAny_of_tree ?_)
 show wpAny _ _ (callAny (.type "set") _) _ _ _
 refine wpAny_pure ⟨Code.quiet_builtin _ (by decide +kernel),codeAny_builtin PySem.F.entry_type_call ?_⟩
 rw [Around.under_plain (weight_type_call_type "set" [.ref r] []) rfl]
 have h1:=PySem.F.called_set.notType
 have h2:=PySem.F.called_set.canCreate
 have Pw:=PySem.F.typeCall_set_1 (.ref r)
 repeat (any_goals (first | assumption | wp_step))
 refine codeAny_mono (F4 (.ref r) (E:=E) (Q₁:=fun obj bf=>obj=.ref s.heap.objs.size /\ bf={ s with heap:=s.heap.push (fZ w) }) ⟨rfl,rfl⟩) fun q bf hq=>?_
 cases q with
 | error e=>exact hq
 | ok fl=>
   cases fl with
   | ret obj=>
     obtain ⟨rfl,rfl⟩:=hq
     have hS:(s.heap.push (fZ w)).get? s.heap.objs.size=some (fZ w):=Heap.get?_push_size _ rfl
     have hT:Shared.TypeIs { s with heap:=s.heap.push (fZ w) } (.ref s.heap.objs.size) "set":=⟨_,hS,rfl⟩
     have Px:=PySem.F.called_set.init.lookup
     have Z4:=PySem.F.called_set.init.bind (.ref s.heap.objs.size)
     repeat (any_goals (first | assumption | wp_step))
     refine codeAny_mono (codeAny_call_builtin (R:=wants (fun v jA=>v=.none /\ ∃ h' tk ns,jA={ s with heap:=h',toks:=tk } /\ jo prog w h' s.heap.objs.size (kl w) ns /\ (∀ x,x∈ns↔x∈ms) /\ ns.length<=ms.length /\ ∀ b o,s.heap.get? b=some o->h'.get? b=some o) E)
      PySem.F.called_set.init.plain PySem.F.entry_set_init (check_set_init_1 hT ?_)) fun Py jA CQ=>?_
     ·obtain ⟨Pz,HX,mG⟩:=src.ty
      obtain ⟨Wf,Mz,MA,JP⟩:=Pz
      simp only at mG
      subst mG
      have Wg:(s.heap.push (fZ w)).get? r=some { cls:=.type T,dict:=Mz,data:=MA,slots:=JP }:=Heap.get?_push_of_some _ HX
      have wM:=src.JN
      have kb:=src.JO
      have el:=src.nd
      unfold Builtin.«set.__init__» noKeywords Builtin.Frozenset.updateFrom
      generalize Wh:pyIter=PI
      wp_walk
      subst Wh
      refine src.iter _ _ _ _ (fun o e=>Heap.get?_push_of_some _ e) ?_
      refine wpAny_bind (wpAny_runValue ?_)
      have UW:r < s.heap.objs.size:=Heap.lt_size HX
      have Wi:A.in1.in1.in1.handled=none:=by simp [hh]
      have hz:(s.heap.push (fZ w)).objs.size=s.heap.objs.size + 1:=Heap.size_push _ _
      have PB:r≠(s.heap.push (fZ w)).objs.size:=by rw [hz]; exact Nat.ne_of_lt (Nat.lt_succ_of_lt UW)
      have F5:s.heap.objs.size∉[(s.heap.push (fZ w)).objs.size,r]:=by
       rw [hz]; simp only [List.mem_cons,List.not_mem_nil,or_false,not_or]
       exact ⟨Nat.ne_of_lt (Nat.lt_succ_self _),Nat.ne_of_gt UW⟩
      have F6:∀ (i:Nat) (v:Value),items[i]?=some v->∃ t,v=.int ((fun i=>ms.getD i 0) i) t:=fun i v hv=>IntsAre.int_at hi i v (by rw [Array.getElem?_toList]; exact hv)
      have hlen:ms.length=items.size:=by have:=(c8.mp hi).2; rw [this]; simp
      refine CP ((src.walk _ _ Wi PB).toS) s.heap.objs.size F5 (fun i=>ms.getD i 0) F6 hb (items.size - 0) 0 _ [] (by omega) (Nat.zero_le _) (src.st _ fun o e=>Heap.get?_push_of_some _ e) (Aw (Heap.get?_push_of_some _ hS)) (Nat.le_refl _) (fun x=>by simp) ?_
      intro s' lQ mv S' l' m'
      obtain ⟨h',g',d',Wj,O0⟩:=s'
      have eg:g'=s.gens:=mv.gens
      have ed:d'=s.drawn:=mv.drawn
      have eo:O0=s.os:=mv.os
      subst eg ed eo
      show wpAny _ _ _ _ _ _
      refine wpAny_pure ?_
      show wpAny _ _ (ret Value.none) _ _ _
      refine wpAny_pure ⟨rfl,h',Wj,lQ,rfl,S',fun x=>?_,by omega,fun b o e=>?_⟩
      ·rw [m',<- hlen]
       constructor
       ·rintro ⟨j,hj,e⟩
        rw [List.getD_eq_getElem?_getD,List.getElem?_eq_getElem hj] at e
        rw [<- e]; exact List.getElem_mem hj
       ·intro hx
        obtain ⟨j,hj,e⟩:=List.getElem_of_mem hx
        exact ⟨j,hj,by rw [List.getD_eq_getElem?_getD,List.getElem?_eq_getElem hj]; exact e⟩
      ·have UX:=Heap.lt_size e
       refine mv.heap b o ?_ (Heap.get?_push_of_some _ (Heap.get?_push_of_some _ e))
       rw [hz]
       simp only [List.mem_cons,List.not_mem_nil,or_false,not_or]
       exact ⟨Nat.ne_of_lt UX,Nat.ne_of_lt (Nat.lt_succ_of_lt UX)⟩
     ·cases Py with
      | error e=>exact CQ
      | ok MB=>
        cases MB with
        | ret v=>
          obtain ⟨rfl,h',tk,ns,rfl,S',m',l',k'⟩:=CQ
          repeat (any_goals (first | assumption | wp_step))
          exact h _ _ ns S' m' l' k'
        | _=>exact CQ.elim
   | _=>exact hq.elim
end
end LS
namespace LS
open PySem PyProof.Rows
set_option maxRecDepth 100000
theorem bI:Slot "set_iterator" "__next__" "set_iterator.__next__":=
 .of (owner:="set_iterator") (n:="__next__") (by rw [typeLookup_type,builtinLookup_eq_fast]; kernel_rfl) (by decide +kernel) (by decide +kernel) (by decide +kernel) (by first | exact .inl (by decide +kernel) | exact .inr (by decide +kernel)) (by rw [isSubtype_type]; kernel_rfl)
theorem md:Slot "set_iterator" "__iter__" "set_iterator.__iter__":=
 .of (owner:="set_iterator") (n:="__iter__") (by rw [typeLookup_type,builtinLookup_eq_fast]; kernel_rfl) (by decide +kernel) (by decide +kernel) (by decide +kernel) (by first | exact .inl (by decide +kernel) | exact .inr (by decide +kernel)) (by rw [isSubtype_type]; kernel_rfl)
theorem gf:entryFor table "set_iterator.__next__"=some Builtin.«set_iterator.__next__»:=entryFor_of_tree (by kernel_rfl)
theorem qq:entryFor table "set_iterator.__iter__"=some Builtin.«dict_keyiterator.__iter__»:=
 entryFor_alias (id':="dict_keyiterator.__iter__") (by kernel_rfl) (by first | rfl | decide +kernel | (unfold String.splitOn; simp +decide [String.splitOnAux])) (by decide +kernel) (by kernel_rfl)
theorem o3:entryFor table "set.__iter__"=some Builtin.«frozenset.__iter__»:=
 entryFor_alias (id':="frozenset.__iter__") (by kernel_rfl) (by first | rfl | decide +kernel | (unfold String.splitOn; simp +decide [String.splitOnAux])) (by decide +kernel) (by kernel_rfl)
theorem uZ:Manifest.owners.lookup (String.ofList ['r','o','t','a','r','e','t','i','_','t','e','s'].reverse)=some Manifest.sig_set_iterator:=by kernel_rfl
theorem gZ (a:Value):argsOk "set_iterator.__next__" ⟨[a],[]⟩:=by
 unfold argsOk; rw [signature?_of (id:="set_iterator.__next__") (n:=['_','_','t','x','e','n','_','_']) (o:=['r','o','t','a','r','e','t','i','_','t','e','s']) (by kernel_rfl) uZ]; kernel_rfl
theorem sy (a:Value):argsOk "set_iterator.__iter__" ⟨[a],[]⟩:=by
 unfold argsOk; rw [signature?_of (id:="set_iterator.__iter__") (n:=['_','_','r','e','t','i','_','_']) (o:=['r','o','t','a','r','e','t','i','_','t','e','s']) (by kernel_rfl) uZ]; kernel_rfl
def jI (h:Heap) (it a:Addr) (first:Value) (i n ep:Nat):Prop:=∃ o,h.get? it=some o /\ o.cls=.type "set_iterator" /\ o.data=.fields #[first,.int i 0,.ref a,.int n 0,.int ep 0]
section
variable {prog:Program} {w:World} {A:Around} {E:Value->Shared->Prop} {s:Shared} {it a:Addr} {first:Value} {i n ep:Nat}
theorem jI.at {h h':Heap} (x:jI h it a first i n ep) (k:∀ o,h.get? it=some o->h'.get? it=some o):jI h' it a first i n ep:=let ⟨o,e,r⟩:=x; ⟨o,k o e,r⟩
theorem jI.typeIs (x:jI s.heap it a first i n ep):s.TypeIs (.ref it) "set_iterator":=let ⟨o,e,c,_⟩:=x; ⟨o,e,c⟩
def fJ (h:Heap) (a:Addr) (es:Array (Int×Value)) (ep:Nat) (t:SetTable):Prop:=∃ o,h.get? a=some o /\ o.ExactSet /\ o.data=.set es ep t
theorem fJ.at {h h':Heap} {es:Array (Int×Value)} {t:SetTable} (x:fJ h a es ep t) (k:∀ o,h.get? a=some o->h'.get? a=some o):fJ h' a es ep t:=let ⟨o,e,r⟩:=x; ⟨o,k o e,r⟩
theorem sC (hit:jI s.heap it a first i n ep) {Q:Value->Shared->Prop} (h:Q (.ref it) s):wpAny (model prog w) A (pyIter (.ref it)) Q E s:=by
 refine wpAny_pyIter_slot hit.typeIs md (wpAny_call_entry md hit.typeIs qq ?_ (sy _))
 show wpAny _ _ (ret (.ref it)) _ _ s
 exact wpAny_pure ⟨_,rfl,"set_iterator",_,hit.typeIs,bI.lookup,h⟩
variable {es:Array (Int×Value)} {t:SetTable} {slot:Nat}
theorem zl {x:Value} {next:Nat} {Q:Option Value->Shared->Prop} (hit:jI s.heap it a (.int slot 0) i n ep) (hS:fJ s.heap a es ep t) (hf:t.fits es.size=true) (hn:es.size=n)
  (hx:∀ (A':Around) (Q':Option (Value×Nat)->Shared->Prop) (E':Value->Shared->Prop),Q' (some (x,next)) s->wpAny (model prog w) A' (setNext a slot i ep) Q' E' s)
  (hQ:∀ h',jI h' it a (.int next 0) (i + 1) n ep->Heap.SameBut it s.heap h'->Q (some x) { s with heap:=h' }):wpAny (model prog w) A (pyNext (.ref it)) Q E s:=by
 obtain ⟨o,ho,hc,hd⟩:=id hit
 obtain ⟨os,HY,hex,HZ⟩:=id hS
 unfold pyNext
 refine wpAny_bind (wpAny_attempt (wpAny_callSpecial?_slot (name:=Str.ofString "__next__") hit.typeIs bI (wpAny_call_entry bI hit.typeIs gf ?_ (gZ _))))
 unfold Builtin.«set_iterator.__next__»
 refine wpAny_bind (wpAny_pure ?_)
 dsimp only
 refine wpAny_bind (wpAny_fieldsOf ho hd ?_)
 dsimp only
 refine wpAny_bind (wpAny_setEntries_of HY HZ hf ?_)
 rw [if_neg (by rw [hn]; simp)]
 refine wpAny_bind ?_
 simp only [Int.toNat_natCast]
 refine hx _ _ _ ?_
 dsimp only
 refine wpAny_bind (wpAny_setField ho hd (by simp) ?_)
 have e1:=Heap.get?_update_self (Obj.mapFields (·.setIfInBounds 0 (rawInt next))) ho (Obj.isFreed_of_fields (Obj.data_mapFields hd _))
 have d1:=Obj.data_mapFields hd (·.setIfInBounds 0 (rawInt next))
 refine wpAny_bind (wpAny_setField e1 d1 (by simp) ?_)
 refine wpAny_pure ⟨x,rfl,wpAny_pure (hQ _ ?_ ((Heap.SameBut.update ..).trans (Heap.SameBut.update ..)))⟩
 refine ⟨_,Heap.get?_update_self _ e1 (Obj.isFreed_of_fields (Obj.data_mapFields d1 _)),?_,?_⟩
 ·rw [Obj.cls_mapFields,Obj.cls_mapFields]; exact hc
 ·rw [Obj.data_mapFields d1]; simp [rawInt]
theorem CS {Q:Option Value->Shared->Prop} (hh:A.handled=none) (hit:jI s.heap it a (.int slot 0) i n ep) (hS:fJ s.heap a es ep t) (hf:t.fits es.size=true) (hn:es.size=n)
  (hx:∀ (A':Around) (Q':Option (Value×Nat)->Shared->Prop) (E':Value->Shared->Prop),Q' none s->wpAny (model prog w) A' (setNext a slot i ep) Q' E' s)
  (hQ:∀ h',Heap.ExtBut it s.heap h'->Q none { s with heap:=h' }):wpAny (model prog w) A (pyNext (.ref it)) Q E s:=by
 obtain ⟨o,ho,hc,hd⟩:=id hit
 obtain ⟨os,HY,hex,HZ⟩:=id hS
 unfold pyNext
 refine wpAny_bind (wpAny_attempt (wpAny_callSpecial?_slot (name:=Str.ofString "__next__") hit.typeIs bI (wpAny_call_entry bI hit.typeIs gf ?_ (gZ _))))
 unfold Builtin.«set_iterator.__next__»
 refine wpAny_bind (wpAny_pure ?_)
 dsimp only
 refine wpAny_bind (wpAny_fieldsOf ho hd ?_)
 dsimp only
 refine wpAny_bind (wpAny_setEntries_of HY HZ hf ?_)
 rw [if_neg (by rw [hn]; simp)]
 refine wpAny_bind ?_
 simp only [Int.toNat_natCast]
 refine hx _ _ _ ?_
 dsimp only
 refine wpAny_bind (wpAny_setField ho hd (by simp) ?_)
 refine wpAny_bind ?_
 simp only [newExc,newTuple]
 refine wpAny_bind (wpAny_newObj_type ?_ (by size_fits))
 refine wpAny_bind (m:=firstArgMember _ _) (wpAny_of_eq (a:=Value.none) (by first | rfl | (simp only [firstArgMember]; rfl)) ?_)
 refine wpAny_newObj_type ?_ (by size_fits)
 simp only [raiseNew]
 refine wpAny_bind (wpAny_handled ?_)
 first | rw [show A.in1.handled=none from hh] | rw [hh]
 refine wpAny_bind (wpAny_pure (wpAny_throw ?_))
 refine wpAny_bind (wpAny_isInstance (T:="StopIteration") (b:=true) ⟨_,Heap.get?_push_size _ rfl,rfl⟩ isSubtype_stop ?_)
 exact wpAny_pure (hQ _ (((Heap.SameBut.update ..).extBut.push _).push _))
theorem CU {x:Value} {pl:Nat} {tp:Addr} {ps:Array Value} {hsh:Int} {Q:Option Value->Shared->Prop} (hit:jI s.heap it a (.ref tp) i n ep) (ht:s.heap.IsTuple tp ps) (hS:fJ s.heap a es ep t) (hf:t.fits es.size=true) (hn:es.size=n)
  (hp:ps[i]?=some (.int pl 0)) (hx:es[pl]?=some (hsh,x))
  (hQ:∀ h',jI h' it a (.ref tp) (i + 1) n ep->Heap.SameBut it s.heap h'->Q (some x) { s with heap:=h' }):wpAny (model prog w) A (pyNext (.ref it)) Q E s:=by
 obtain ⟨o,ho,hc,hd⟩:=id hit
 obtain ⟨os,HY,hex,HZ⟩:=id hS
 obtain ⟨ot,PD,_,nt,PH⟩:=ht
 unfold pyNext
 refine wpAny_bind (wpAny_attempt (wpAny_callSpecial?_slot (name:=Str.ofString "__next__") hit.typeIs bI (wpAny_call_entry bI hit.typeIs gf ?_ (gZ _))))
 unfold Builtin.«set_iterator.__next__»
 refine wpAny_bind (wpAny_pure ?_)
 dsimp only
 refine wpAny_bind (wpAny_fieldsOf ho hd ?_)
 dsimp only
 refine wpAny_bind (wpAny_setEntries_of HY HZ hf ?_)
 rw [if_neg (by rw [hn]; simp)]
 refine wpAny_bind (wpAny_seqItems PD PH ?_)
 dsimp only
 simp only [Int.toNat_natCast,hp]
 refine wpAny_bind ?_
 unfold setNextDrawn
 refine wpAny_bind (wpAny_setState_of HY HZ hf ?_)
 dsimp only
 rw [if_neg (by simp)]
 simp only [hx]
 refine wpAny_pure ?_
 refine wpAny_bind (wpAny_setField ho hd (by simp) ?_)
 refine wpAny_pure ⟨x,rfl,wpAny_pure (hQ _ ?_ (Heap.SameBut.update ..))⟩
 refine ⟨_,Heap.get?_update_self _ ho (Obj.isFreed_of_fields (Obj.data_mapFields hd _)),?_,?_⟩
 ·rw [Obj.cls_mapFields]; exact hc
 ·rw [Obj.data_mapFields hd]; simp [rawInt]
theorem F9 {tp:Addr} {ps:Array Value} {Q:Option Value->Shared->Prop} (hh:A.handled=none) (hit:jI s.heap it a (.ref tp) i n ep) (ht:s.heap.IsTuple tp ps) (hS:fJ s.heap a es ep t) (hf:t.fits es.size=true) (hn:es.size=n)
  (hp:ps[i]?=none) (hQ:∀ h',Heap.ExtBut it s.heap h'->Q none { s with heap:=h' }):wpAny (model prog w) A (pyNext (.ref it)) Q E s:=by
 obtain ⟨o,ho,hc,hd⟩:=id hit
 obtain ⟨os,HY,hex,HZ⟩:=id hS
 obtain ⟨ot,PD,_,nt,PH⟩:=ht
 unfold pyNext
 refine wpAny_bind (wpAny_attempt (wpAny_callSpecial?_slot (name:=Str.ofString "__next__") hit.typeIs bI (wpAny_call_entry bI hit.typeIs gf ?_ (gZ _))))
 unfold Builtin.«set_iterator.__next__»
 refine wpAny_bind (wpAny_pure ?_)
 dsimp only
 refine wpAny_bind (wpAny_fieldsOf ho hd ?_)
 dsimp only
 refine wpAny_bind (wpAny_setEntries_of HY HZ hf ?_)
 rw [if_neg (by rw [hn]; simp)]
 refine wpAny_bind (wpAny_seqItems PD PH ?_)
 dsimp only
 simp only [Int.toNat_natCast,hp]
 refine wpAny_bind (wpAny_setField ho hd (by simp) ?_)
 have e1:=Heap.get?_update_self (Obj.mapFields (·.setIfInBounds 0 (rawInt 0))) ho (Obj.isFreed_of_fields (Obj.data_mapFields hd _))
 have d1:=Obj.data_mapFields hd (·.setIfInBounds 0 (rawInt 0))
 refine wpAny_bind (wpAny_setField e1 d1 (by simp) ?_)
 refine wpAny_bind ?_
 simp only [newExc,newTuple]
 refine wpAny_bind (wpAny_newObj_type ?_ (by size_fits))
 refine wpAny_bind (m:=firstArgMember _ _) (wpAny_of_eq (a:=Value.none) (by first | rfl | (simp only [firstArgMember]; rfl)) ?_)
 refine wpAny_newObj_type ?_ (by size_fits)
 simp only [raiseNew]
 refine wpAny_bind (wpAny_handled ?_)
 first | rw [show A.in1.handled=none from hh] | rw [hh]
 refine wpAny_bind (wpAny_pure (wpAny_throw ?_))
 refine wpAny_bind (wpAny_isInstance (T:="StopIteration") (b:=true) ⟨_,Heap.get?_push_size _ rfl,rfl⟩ isSubtype_stop ?_)
 exact wpAny_pure (hQ _ ((((Heap.SameBut.update ..).trans (Heap.SameBut.update ..)).extBut.push _).push _))
theorem o6 (hS:fJ s.heap a es ep t) (hf:t.fits es.size=true) (hw:w.params.followText "set-order"=false) (hl:t.led=true) (hp:(!t.plain && decide (es.size > 1))=false) {Q:Option (Value×Nat)->Shared->Prop}
  (h:Q (match es[SetTable.below t.place slot]?,t.place[SetTable.below t.place slot]? with | some (_,x),some j=>some (x,j + 1) | _,_=>none) s):wpAny (model prog w) A (setNext a slot i ep) Q E s:=by
 obtain ⟨o,ho,_,hd⟩:=hS
 unfold setNext
 refine wpAny_bind (wpAny_setState_of ho hd hf ?_)
 dsimp only
 refine wpAny_bind ?_
 unfold setsByText
 refine wpAny_bind (wpAny_askSetting (wpAny_pure ?_))
 show wpAny _ _ (if w.params.followText "set-order"=true then _ else _) _ _ _
 rw [hw,if_neg Bool.false_ne_true]
 show wpAny _ _ (if (!t.plain && decide (es.size > 1))=true then _ else _) _ _ _
 rw [hp,if_neg Bool.false_ne_true]
 refine wpAny_bind ?_
 show wpAny _ _ (if (!t.led && !es.isEmpty)=true then _ else _) _ _ _
 rw [hl,if_neg (by simp)]
 exact wpAny_pure (wpAny_pure h)
theorem rq (hS:fJ s.heap a es ep t) (hf:t.fits es.size=true) (hw:w.params.followText "set-order"=true) {Q:Option (Value×Nat)->Shared->Prop}
  (h:Q (((pickOrder (w.params.setOrder a ep) es)[i]?).map fun e=>(e.2,slot)) s):wpAny (model prog w) A (setNext a slot i ep) Q E s:=by
 obtain ⟨o,ho,_,hd⟩:=hS
 unfold setNext
 refine wpAny_bind (wpAny_setState_of ho hd hf ?_)
 dsimp only
 refine wpAny_bind ?_
 unfold setsByText
 refine wpAny_bind (wpAny_askSetting (wpAny_pure ?_))
 show wpAny _ _ (if w.params.followText "set-order"=true then _ else _) _ _ _
 rw [hw,if_pos rfl]
 rw [if_neg (by simp)]
 refine wpAny_bind ?_
 unfold setWalk
 refine wpAny_bind (wpAny_setState_of ho hd hf ?_)
 dsimp only
 refine wpAny_bind ?_
 unfold setsByText
 refine wpAny_bind (wpAny_askSetting (wpAny_pure ?_))
 show wpAny _ _ (if w.params.followText "set-order"=true then _ else _) _ _ _
 rw [hw,if_pos rfl]
 exact wpAny_bind (wpAny_askSetting (wpAny_pure (wpAny_pure h)))
end
end LS
namespace LS
open PySem PySem.Spec PyProof.Rows
theorem ls {α:Type}:∀ {l:List α} {i:Nat} (h:i < l.length),(l[i] :: l.eraseIdx i).Perm l
 | x :: l,0,_=>by simp
 | x :: l,i + 1,h=>by
   have h':i < l.length:=by simpa using h
   have:=ls h'
   simp only [List.getElem_cons_succ,List.eraseIdx_cons_succ]
   exact (List.Perm.swap _ _ _).trans (List.Perm.cons _ this)
theorem zm {α:Type} (next:Nat->Nat):∀ (fuel k:Nat) (left:List α) (out:Array α),left.length=fuel->(pickOrder.go next fuel k left out).toList.Perm (out.toList ++ left)
 | 0,k,left,out,h=>by
   have:left=[]:=List.length_eq_zero_iff.mp h
   subst this
   rw [pickOrder.go,List.append_nil]
 | fuel + 1,k,left,out,h=>by
   rw [pickOrder.go]
   have hl:next k % left.length < left.length:=Nat.mod_lt _ (by omega)
   rw [List.getElem?_eq_getElem hl]
   dsimp only
   refine (zm next fuel (k + 1) _ _ (by rw [List.length_eraseIdx_of_lt hl]; omega)).trans ?_
   rw [Array.toList_push,List.append_assoc]
   exact List.Perm.append_left _ (ls hl)
theorem Ax {α:Type} (next:Nat->Nat) (xs:Array α):(pickOrder next xs).toList.Perm xs.toList:=by
 have:=zm next xs.size 0 xs.toList #[] (by simp)
 simpa [pickOrder] using this
section
variable {prog:Program} {w:World} {A:Around} {E:Value->Shared->Prop} {s:Shared} {it a:Addr} {first:Value} {i n ep:Nat} {es:Array (Int×Value)} {t:SetTable}
theorem xr {M:Model} {src:Source} {Q:Nat->Shared->Prop} (hn:n≠0) (h:∀ i d',i < n->Q i { s with drawn:=d' }):wpAny M A (choose src n) Q E s:=
 fun _ _ _=>⟨hn,h _ _ (Nat.mod_lt _ (Nat.pos_of_ne_zero hn))⟩
theorem o7 {α:Type} {M:Model}:∀ (n:Nat) (xs:List α) (s:Shared) (Q:List α->Shared->Prop),xs.length=n->(∀ ys d',ys.Perm xs->Q ys { s with drawn:=d' })->wpAny M A (drawOrder n xs) Q E s
 | 0,xs,s,Q,hl,h=>by
   have e:xs=[]:=List.length_eq_zero_iff.mp hl
   subst e
   rw [drawOrder]
   exact wpAny_pure (h [] s.drawn (.refl _))
 | n + 1,[],s,Q,hl,h=>by cases hl
 | n + 1,x :: xs,s,Q,hl,h=>by
   rw [drawOrder]
   rotate_left
   ·intro z; cases z
   refine wpAny_bind (xr (by simp) fun i d' hi=>?_)
   rw [List.getElem?_eq_getElem hi]
   dsimp only
   refine wpAny_bind (o7 n _ _ _ (by rw [List.length_eraseIdx_of_lt hi]; simp at hl ⊢; omega) fun ys d2 hp=>wpAny_pure ?_)
   refine h _ d2 ?_
   exact (List.Perm.cons _ hp).trans (ls hi)
theorem Ay {I:Addr} (hf:t.fits es.size=true) (hw:w.params.followText "set-order"=true) (el:a≠I) (hh:A.handled=none):
  Walks prog w A I [I,a] [I] (pickOrder (w.params.setOrder a ep) es).size (fun i v=>((pickOrder (w.params.setOrder a ep) es).toList.map (·.2))[i]?=some v) (fun i h=>jI h I a (.int (0:Nat) 0) i es.size ep /\ fJ h a es ep t) where
 sub:=fun b hb=>by simp at hb; simp [hb]
 frame:=fun _ _ _ st hk=>⟨st.1.at fun o e=>hk I (by simp) o e,st.2.at fun o e=>hk a (by simp) o e⟩
 item:=fun i s Q E hi st hQ=>by
  refine zl (x:=((pickOrder (w.params.setOrder a ep) es)[i]).2) (next:=0) st.1 st.2 hf rfl (fun A' Q' E' q=>rq st.2 hf hw (by rw [Array.getElem?_eq_getElem hi]; exact q)) fun h' su ng=>?_
  exact hQ _ h' s.toks (by simp [hi]) ⟨su,st.2.at fun o e=>ng.extBut a o el e⟩ fun b o hb e=>ng.extBut b o (fun h=>hb (by simp [h])) e
 done:=fun s Q E st hQ=>CS hh st.1 st.2 hf rfl (fun A' Q' E' q=>rq st.2 hf hw (by rw [Array.getElem?_eq_none (by simp)]; exact q)) fun h' MC=>hQ h' s.toks fun b o hb e=>MC b o (fun h=>hb (by simp [h])) e
 self:=fun _ _ _ _ st hQ=>sC st.1 hQ
theorem xt {I:Addr} (hf:t.fits es.size=true) (hw:w.params.followText "set-order"=false) (hl:t.led=true) (hp:(!t.plain && decide (es.size > 1))=false) (hr:ro t.place.toList) (el:a≠I) (hh:A.handled=none):
  Walks prog w A I [I,a] [I] es.size (fun i v=>(es.toList.map (·.2))[i]?=some v)
   (fun i h=>∃ slot:Nat,jI h I a (.int slot 0) i es.size ep /\ fJ h a es ep t /\ (∀ k,k < i->t.place.getD k 0 < slot) /\ ∀ k,i<=k->k < t.place.size->slot<=t.place.getD k 0) where
 sub:=fun b hb=>by simp at hb; simp [hb]
 frame:=fun _ _ _ ⟨slot,H8,gn,BN⟩ hk=>⟨slot,H8.at fun o e=>hk I (by simp) o e,gn.at fun o e=>hk a (by simp) o e,BN⟩
 item:=fun i s Q E hi ⟨slot,H8,gn,BN,PJ⟩ hQ=>by
  have hz:t.place.size=es.size:=by simp only [SetTable.fits,Bool.and_eq_true,beq_iff_eq] at hf; exact hf.1
  have hb:SetTable.below t.place slot=i:=oZ hr (by omega) BN PJ
  have iH:t.place[i]?=some (t.place.getD i 0):=by rw [Array.getElem?_eq_getElem (by omega)]; simp [Array.getD,hz,hi]
  refine zl (x:=es[i].2) (next:=t.place.getD i 0 + 1) H8 gn hf rfl (fun A' Q' E' q=>o6 gn hf hw hl hp (by rw [hb,Array.getElem?_eq_getElem hi,iH]; exact q)) fun h' su ng=>?_
  refine hQ _ h' s.toks (by simp [hi]) ⟨_,su,gn.at fun o e=>ng.extBut a o el e,fun k hk=>?_,fun k h1 h2=>?_⟩ fun b o hb e=>ng.extBut b o (fun h=>hb (by simp [h])) e
  ·by_cases Wk:k=i
   ·rw [Wk]; omega
   ·have:=kP hr (show k < i by omega) (by omega) 0 0
    omega
  ·have:=kP hr (show i < k by omega) h2 0 0
   omega
 done:=fun s Q E ⟨slot,H8,gn,BN,PJ⟩ hQ=>by
  have hz:t.place.size=es.size:=by simp only [SetTable.fits,Bool.and_eq_true,beq_iff_eq] at hf; exact hf.1
  have hb:SetTable.below t.place slot=es.size:=oZ hr (by omega) BN PJ
  exact CS hh H8 gn hf rfl (fun A' Q' E' q=>o6 gn hf hw hl hp (by rw [hb,Array.getElem?_eq_none (Nat.le_refl _)]; exact q)) fun h' MC=>hQ h' s.toks fun b o hb e=>MC b o (fun h=>hb (by simp [h])) e
 self:=fun _ _ _ _ ⟨slot,H8,_⟩ hQ=>sC H8 hQ
theorem xu {I tp:Addr} {ys:List Nat} (hf:t.fits es.size=true) (hy:ys.Perm (List.range es.size)) (el:a≠I) (Wl:tp≠I) (hh:A.handled=none):
  Walks prog w A I [I,a,tp] [I] es.size (fun i v=>(ys.map fun p=>(es.getD p (0,Value.none)).2)[i]?=some v) (fun i h=>jI h I a (.ref tp) i es.size ep /\ h.IsTuple tp (ys.map fun p:Nat=>rawInt p).toArray /\ fJ h a es ep t) where
 sub:=fun b hb=>by simp at hb; simp [hb]
 frame:=fun _ _ _ st hk=>⟨st.1.at fun o e=>hk I (by simp) o e,st.2.1.at fun o e=>hk tp (by simp) o e,st.2.2.at fun o e=>hk a (by simp) o e⟩
 item:=fun i s Q E hi st hQ=>by
  have Ll:ys.length=es.size:=by rw [hy.length_eq]; simp
  have hp:ys[i] < es.size:=List.mem_range.mp (hy.mem_iff.mp (List.getElem_mem (by omega)))
  refine CU (x:=es[ys[i]].2) (pl:=ys[i]) (hsh:=es[ys[i]].1) st.1 st.2.1 st.2.2 hf rfl (by simp [Ll,hi,rawInt]) (by rw [Array.getElem?_eq_getElem hp]) fun h' su ng=>?_
  refine hQ _ h' s.toks ?_ ⟨su,st.2.1.at fun o e=>ng.extBut tp o Wl e,st.2.2.at fun o e=>ng.extBut a o el e⟩ fun b o hb e=>ng.extBut b o (fun h=>hb (by simp [h])) e
  rw [List.getElem?_map,List.getElem?_eq_getElem (by omega)]
  simp [Array.getD,hp]
 done:=fun s Q E st hQ=>by
  have Ll:ys.length=es.size:=by rw [hy.length_eq]; simp
  exact F9 hh st.1 st.2.1 st.2.2 hf rfl (by simp [Ll]) fun h' MC=>hQ h' s.toks fun b o hb e=>MC b o (fun h=>hb (by simp [h])) e
 self:=fun _ _ _ _ st hQ=>sC st.1 hQ
theorem CV {Q:Value->Shared->Prop} (hS:fJ s.heap a es ep t) (hf:t.fits es.size=true) (hr:ro t.place.toList) (hl:t.led=kl w) (hz:es.size<=sizeLine)
  (h:∀ (I:Addr) (fp:List Addr) (ord:List Value) (St:Nat->Heap->Prop) (h1:Heap) (d1:Drawn),ord.Perm (es.toList.map (·.2))->(∀ A':Around,A'.handled=none->Walks prog w A' I fp [I] ord.length (fun i v=>ord[i]?=some v) St)->St 0 h1->
   (∀ b o,s.heap.get? b=some o->h1.get? b=some o)->s.heap.objs.size<=I->(∀ b∈fp,b=a \/ s.heap.objs.size<=b)->Q (.ref I) { s with heap:=h1,drawn:=d1 }):wpAny (model prog w) A (pyIter (.ref a)) Q E s:=by
 obtain ⟨o,ho,hex,hd⟩:=id hS
 have hT:s.TypeIs (.ref a) "set":=⟨o,ho,hex.1⟩
 have j4:=Heap.lt_size ho
 refine wpAny_pyIter_slot hT PySem.F.slot_set_iter (wpAny_call_entry PySem.F.slot_set_iter hT o3 ?_ (PySem.F.args_set_iter_1 _))
 unfold Builtin.«frozenset.__iter__»
 refine wpAny_bind (wpAny_pure ?_)
 refine wpAny_bind ?_
 unfold Builtin.Frozenset.sizeOf
 refine wpAny_bind (wpAny_setEntries_of ho hd hf (wpAny_pure ?_))
 refine wpAny_bind ?_
 unfold setDrawn
 refine wpAny_bind (wpAny_setState_of ho hd hf ?_)
 dsimp only
 refine wpAny_bind ?_
 unfold setsByText
 refine wpAny_bind (wpAny_askSetting (wpAny_pure (wpAny_pure ?_)))
 show wpAny _ _ (if (!w.params.followText "set-order" && (!t.plain && decide (es.size > 1)))=true then _ else _) _ _ _
 have slots:∀ {ord:List Value} (St:Addr->Nat->Heap->Prop),ord.Perm (es.toList.map (·.2))->(∀ (A':Around) (I:Addr),a≠I->A'.handled=none->Walks prog w A' I [I,a] [I] ord.length (fun i v=>ord[i]?=some v) (St I))->
   (∀ h' I,jI h' I a (.int (0:Nat) 0) 0 es.size ep->fJ h' a es ep t->St I 0 h')->Q (.ref s.heap.objs.size) { s with heap:=s.heap.push { cls:=.type "set_iterator",data:=.fields #[.int (0:Nat) 0,.int (0:Nat) 0,.ref a,.int (es.size:Nat) 0,.int (ep:Nat) 0] } }:=by
  intro ord St hp hW Ht
  have el:a≠s.heap.objs.size:=Nat.ne_of_lt j4
  exact h s.heap.objs.size [s.heap.objs.size,a] ord (St s.heap.objs.size) _ s.drawn hp (fun A' hh=>hW A' _ el hh) (Ht _ _ ⟨_,Heap.get?_push_size _ rfl,rfl,rfl⟩ (hS.at fun o e=>Heap.get?_push_of_some _ e)) (fun b o e=>Heap.get?_push_of_some _ e) (Nat.le_refl _)
   fun b hb=>by
    rcases List.mem_cons.mp hb with z | z
    ·exact .inr (by rw [z]; exact Nat.le_refl _)
    ·exact .inl (by simpa using z)
 by_cases N3:(!w.params.followText "set-order" && (!t.plain && decide (es.size > 1)))=true
 ·rw [if_pos N3]
  refine wpAny_bind (o7 _ _ _ _ (by simp) fun ys d' hy=>?_)
  refine wpAny_bind (wpAny_newTuple ?_ (by rw [List.length_map,hy.length_eq]; simpa using hz))
  have Wm:(s.heap.push { cls:=.type "tuple",data:=.seq (ys.map fun p:Nat=>rawInt p).toArray }).IsTuple s.heap.objs.size (ys.map fun p:Nat=>rawInt p).toArray:=⟨_,Heap.get?_push_size _ rfl,rfl,_,rfl⟩
  have Lm:=hS.at (h':=s.heap.push { cls:=.type "tuple",data:=.seq (ys.map fun p:Nat=>rawInt p).toArray }) fun o e=>Heap.get?_push_of_some _ e
  obtain ⟨o1,mH,_,Ln⟩:=id Lm
  refine wpAny_bind (wpAny_setEpoch_of mH Ln hf ?_)
  have wM:(s.heap.push { cls:=.type "tuple",data:=.seq (ys.map fun p:Nat=>rawInt p).toArray }).objs.size=s.heap.objs.size + 1:=Heap.size_push _ _
  refine wpAny_bind (wpAny_newObj_type (wpAny_pure ⟨_,rfl,"set_iterator",_,⟨_,Heap.get?_push_size _ rfl,rfl⟩,bI.lookup,?_⟩))
  have Wn:(ys.map fun p=>(es.getD p (0,Value.none)).2).Perm (es.toList.map (·.2)):=by
   refine (hy.map _).trans ?_
   have e:(List.range es.size).map (fun p=>(es.getD p (0,Value.none)).2)=es.toList.map (·.2):=by
    refine List.ext_getElem (by simp) fun i h1 h2=>?_
    simp at h1
    simp [Array.getD,h1]
   rw [e]
  have Br:(ys.map fun p=>(es.getD p (0,Value.none)).2).length=es.size:=by rw [List.length_map,hy.length_eq]; simp
  refine h (s.heap.push { cls:=.type "tuple",data:=.seq (ys.map fun p:Nat=>rawInt p).toArray }).objs.size [_,a,s.heap.objs.size] _ (fun i h=>jI h (s.heap.push { cls:=.type "tuple",data:=.seq (ys.map fun p:Nat=>rawInt p).toArray }).objs.size a (.ref s.heap.objs.size) i es.size ep /\ h.IsTuple s.heap.objs.size (ys.map fun p:Nat=>rawInt p).toArray /\ fJ h a es ep t) _ d' Wn (fun A' hh=>by rw [Br]; exact xu (t:=t) (ep:=ep) hf hy (by rw [wM]; exact Nat.ne_of_lt (Nat.lt_succ_of_lt j4)) (by rw [wM]; exact Nat.ne_of_lt (Nat.lt_succ_self _)) hh)
   ⟨⟨_,Heap.get?_push_size _ rfl,rfl,by simp [rawInt]⟩,Wm.push _,Lm.at fun o e=>Heap.get?_push_of_some _ e⟩ (fun b o e=>Heap.get?_push_of_some _ (Heap.get?_push_of_some _ e)) (by rw [wM]; exact Nat.le_succ _) fun b hb=>?_
  simp only [List.mem_cons,List.not_mem_nil,or_false] at hb
  rcases hb with z | z | z
  ·exact .inr (by rw [z,wM]; exact Nat.le_succ _)
  ·exact .inl z
  ·exact .inr (by rw [z]; exact Nat.le_refl _)
 ·rw [if_neg N3]
  refine wpAny_bind (wpAny_pure ?_)
  refine wpAny_bind (wpAny_setEpoch_of ho hd hf ?_)
  refine wpAny_bind (wpAny_newObj_type (wpAny_pure ⟨_,rfl,"set_iterator",_,⟨_,Heap.get?_push_size _ rfl,rfl⟩,bI.lookup,?_⟩))
  cases hw:w.params.followText "set-order" with
  | true=>
    have PK:((pickOrder (w.params.setOrder a ep) es).toList.map (·.2)).length=(pickOrder (w.params.setOrder a ep) es).size:=by simp
    exact slots (ord:=(pickOrder (w.params.setOrder a ep) es).toList.map (·.2)) (fun I i h=>jI h I a (.int (0:Nat) 0) i es.size ep /\ fJ h a es ep t) ((Ax _ _).map _) (fun A' I el hh=>by rw [PK]; exact Ay hf hw el hh) fun h' I x y=>⟨x,y⟩
  | false=>
    rw [hw] at N3
    have iH:(!t.plain && decide (es.size > 1))=false:=by simpa using N3
    have hle:t.led=true:=by rw [hl]; simp [kl,hw]
    have PK:(es.toList.map (·.2)).length=es.size:=by simp
    refine slots (ord:=es.toList.map (·.2)) (fun I i h=>∃ slot:Nat,jI h I a (.int slot 0) i es.size ep /\ fJ h a es ep t /\ (∀ k,k < i->t.place.getD k 0 < slot) /\ ∀ k,i<=k->k < t.place.size->slot<=t.place.getD k 0) (.refl _)
     (fun A' I el hh=>by rw [PK]; exact xt hf hw hle iH hr el hh) fun h' I x y=>⟨0,x,y,fun k hk=>by omega,fun k _ _=>Nat.zero_le _⟩
end
end LS
namespace LS
open PySem PySem.Spec PySem.Calls PyProof.Rows
section
variable {prog:Program} {w:World} {A:Around} {E:Value->Shared->Prop} {s:Shared} {a:Addr} {ns:List Int}
theorem CW {Q:Bool->Shared->Prop} (hT:s.TypeIs (.ref a) "set") (h:Q false s):wpAny (model prog w) A (Builtin.List.listLengthHint (.ref a)) Q E s:=by
 unfold Builtin.List.listLengthHint
 refine wpAny_bind (wpAny_specialOf hT PySem.F.slot_set_len.lookup ?_)
 generalize MD:("set.__len__":String)=id0
 wp_delta
 rw [show splitId id0=some ("set","__len__") from by subst MD; decide +kernel]
 subst MD
 refine wpAny_bind (wpAny_isInstance (T:="set") (b:=true) hT (by rw [isSubtype_type]; kernel_rfl) ?_)
 refine wpAny_ite_split (fun z=>absurd z (by decide)) fun _=>?_
 refine wpAny_ite_split (fun _=>?_) fun z=>absurd (by decide +kernel) z
 exact wpAny_bind (wpAny_typeOf hT (wpAny_pure h))
theorem u0 {R:List Value->Shared->Prop} (hh:A.handled=none) (hS:jo prog w s.heap a (kl w) ns)
  (h:∀ (h':Heap) (tk:Nat) (d':Drawn) (vs:List Value) (ms:List Int),(∀ b o,s.heap.get? b=some o->h'.get? b=some o)->s.heap.objs.size < h'.objs.size->IntsAre vs ms->ms.Perm ns->R vs { s with heap:=h',toks:=tk,drawn:=d' }):
  wpAny (model prog w) A (collect (.ref a)) R E s:=by
 obtain ⟨o,es,ep,t,ho,hex,hd,h1,h2,h3,h4,h5,h6,h7⟩:=hS
 have hz:=fits_of_scanBound h4
 have j4:=Heap.lt_size ho
 have Wo:fJ s.heap a es ep t:=⟨o,ho,hex,hd⟩
 unfold collect
 refine wpAny_bind (wpAny_runValue (codeAny_builtin entry_proto_collect' ?_))
 rw [Around.under_plainId PySem.F.plain_proto_collect _]
 show wpAny _ A.in1 (newList [] >>= fun l=>again (.builtin "list.__iadd__" ⟨[l,.ref a],[]⟩)) _ _ s
 refine wpAny_bind (wpAny_newObj_type ?_)
 refine wpAny_pure ⟨plainId_quiet PySem.F.plain_list_iadd _,codeAny_builtin entry_list_iadd' ?_⟩
 rw [Around.under_plainId PySem.F.plain_list_iadd _]
 generalize hP:s.heap.push { cls:=.type "list",data:=.seq ([]:List Value).toArray }=P1
 have Ia:∀ b o,s.heap.get? b=some o->P1.get? b=some o:=fun b o e=>by rw [<- hP]; exact Heap.get?_push_of_some _ e
 have hL:P1.get? s.heap.objs.size=some { cls:=.type "list",data:=.seq #[] }:=by rw [<- hP]; exact Heap.get?_push_size _ rfl
 have Bq:P1.objs.size=s.heap.objs.size + 1:=by rw [<- hP]; exact Heap.size_push _ _
 show wpAny _ A.in1 (Builtin.List.listExtendWith (.ref s.heap.objs.size) (.ref a) (.ref s.heap.objs.size)) _ _ { s with heap:=P1 }
 have key:wpAny (model prog w) A.in1 (Builtin.List.listExtendWith (.ref s.heap.objs.size) (.ref a) (.ref s.heap.objs.size))
   (fun fin s'=>match fin with
    | .done f=>False
    | .again c'=>c'.quiet=true /\ codeAny (model prog w) A c' (fun q s'=>∃ (h':Heap) (tk:Nat) (d':Drawn) (acc:Array Value) (c':Nat) (ms:List Int),q=.ok (.ret (.ref s.heap.objs.size)) /\ s'={ s with heap:=h',toks:=tk,drawn:=d' } /\
      (∀ b o,s.heap.get? b=some o->h'.get? b=some o) /\ h'.get? s.heap.objs.size=some { cls:=.type "list",dict:=none,data:=.seq acc c',slots:=#[] } /\ IntsAre acc.toList ms /\ ms.Perm ns) s') (fun _ _=>False) { s with heap:=P1 }:=by
  unfold Builtin.List.listExtendWith
  have Lm:=Wo.at (h':=P1) fun o e=>Ia a o e
  obtain ⟨o1,mH,PL,Ln⟩:=id Lm
  refine wpAny_bind (wpAny_typeOf (T:="set") ⟨o1,mH,PL.1⟩ ?_)
  have q1:Builtin.List.listSameRef (.ref s.heap.objs.size) (.ref a)=false:=by simp [Builtin.List.listSameRef,Nat.ne_of_gt j4]
  have q2:(Value.type "set" == Value.type "list")=false:=by decide
  have q3:(Value.type "set" == Value.type "tuple")=false:=by decide
  simp only [q1,q2,q3,Bool.or_false,Bool.false_eq_true,if_false]
  refine wpAny_bind (CV (s:={ s with heap:=P1 }) Lm h5 h7 h6 hz fun I fp ord St ME d1 hp hW N4 kp hI PM=>?_)
  replace kp:∀ b o,P1.get? b=some o->ME.get? b=some o:=kp
  replace hI:P1.objs.size<=I:=hI
  replace PM:∀ b∈fp,b=a \/ P1.objs.size<=b:=PM
  have F5:s.heap.objs.size∉fp:=fun z=>by
   rcases PM _ z with e | e
   ·exact Nat.lt_irrefl _ (e ▸ j4)
   ·rw [Bq] at e; exact Nat.not_succ_le_self _ e
  have Z5:s.heap.objs.size≠I:=fun z=>by rw [<- z,Bq] at hI; exact Nat.not_succ_le_self _ hI
  obtain ⟨o2,j7,hex2,_⟩:=Lm.at (h':=ME) fun o e=>kp a o e
  obtain ⟨i0,Lo⟩:=nh h2 hp
  have Br:ord.length<=sizeLine:=by rw [hp.length_eq]; simpa using hz
  have run:∀ (g:Heap) (c0:Nat),St 0 g->(∀ b o,b≠s.heap.objs.size->ME.get? b=some o->g.get? b=some o)->g.get? s.heap.objs.size=some { cls:=.type "list",data:=.seq #[] c0 }->
    codeAny (model prog w) A (.builtin "list.extend.loop" ⟨[.ref s.heap.objs.size,.ref I,.ref s.heap.objs.size],[]⟩) (fun q s'=>∃ (h':Heap) (tk:Nat) (d':Drawn) (acc:Array Value) (c':Nat) (ms:List Int),q=.ok (.ret (.ref s.heap.objs.size)) /\ s'={ s with heap:=h',toks:=tk,drawn:=d' } /\
     (∀ b o,s.heap.get? b=some o->h'.get? b=some o) /\ h'.get? s.heap.objs.size=some { cls:=.type "list",dict:=none,data:=.seq acc c',slots:=#[] } /\ IntsAre acc.toList ms /\ ms.Perm ns) { s with heap:=g,drawn:=d1 }:=by
   intro g c0 st k hg
   refine codeAny_extend_loopS (hW A.in1 hh).toS Br _ F5 _ ord.length 0 _ #[] c0 rfl (Nat.zero_le _) st hg (ItemsOf.nil _) fun s' Az c' mv F7 oh=>?_
   obtain ⟨hx,gx,dx,tx,ox⟩:=s'
   have eg:gx=s.gens:=mv.gens
   have ed:dx=d1:=mv.drawn
   have eo:ox=s.os:=mv.os
   subst eg ed eo
   have JQ:Az.toList=ord:=by
    refine List.ext_getElem? fun j=>?_
    by_cases hj:j < Az.size
    ·have q:=oh.2 j _ (Array.getElem?_eq_getElem hj)
     rw [q]; simp [hj]
    ·rw [List.getElem?_eq_none (by simp; omega),List.getElem?_eq_none (by rw [<- oh.1]; omega)]
   refine ⟨hx,tx,dx,Az,c',i0,rfl,rfl,fun b o e=>?_,F7,by rw [JQ]; exact Lo.1,Lo.2⟩
   have hb:=Heap.lt_size e
   refine mv.heap b o ?_ (k b o (Nat.ne_of_lt hb) (kp b o (Ia b o e)))
   simp only [List.mem_cons,List.not_mem_nil,or_false,not_or]
   exact ⟨Nat.ne_of_lt hb,Nat.ne_of_lt (Nat.lt_of_lt_of_le hb (Nat.le_trans (by rw [Bq]; exact Nat.le_succ _) hI))⟩
  have PN:ME.get? s.heap.objs.size=some { cls:=.type "list",data:=.seq #[] }:=kp _ _ hL
  refine wpAny_bind (wpAny_holding (CW ⟨o2,j7,hex2.1⟩ ?_))
  refine wpAny_ite_split (fun _=>?_) (fun _=>wpAny_pure ⟨plainId_quiet PySem.F.plain_extend_loop _,run ME 0 N4 (fun b o _ e=>e) PN⟩)
  refine wpAny_bind (wpAny_rule (wpAny_bind ?_))
  show wpAny _ _ (updateSeq s.heap.objs.size (·.push .none) >>= fun _=>updateSeq s.heap.objs.size (·.pop)) _ _ _
  refine wpAny_bind (wpAny_updateSeq PN rfl ?_)
  have MF:=Heap.get?_update_self (Obj.mapSeq (·.push Value.none)) PN rfl
  refine wpAny_updateSeq (hz:=by seq_fits) MF rfl ?_
  have PQ:=Heap.get?_update_self (Obj.mapSeq (·.pop)) MF rfl
  refine wpAny_pure ⟨plainId_quiet PySem.F.plain_extend_loop _,run _ _ ((hW A.in1 hh).frame 0 _ _ N4 fun b hb o e=>?_) (fun b o hb e=>?_) PQ⟩
  ·have UY:b≠s.heap.objs.size:=fun z=>F5 (z ▸ hb)
   exact (Heap.get?_update_other _ _ (Ne.symm UY)).trans ((Heap.get?_update_other _ _ (Ne.symm UY)).trans e)
  ·exact (Heap.get?_update_other _ _ (Ne.symm hb)).trans ((Heap.get?_update_other _ _ (Ne.symm hb)).trans e)
 refine wpAny_mono key (fun fin s' x=>?_) fun _ _ z=>z.elim
 cases fin with
 | done f=>exact x.elim
 | again c₁=>
   refine ⟨x.1,codeAny_mono x.2 fun q jA y=>?_⟩
   obtain ⟨h',tk,d',acc,c',ms,rfl,rfl,hk,F7,i1,p1⟩:=y
   show wpAny _ A (load s.heap.objs.size >>= _) _ _ _
   exact wpAny_bind (wpAny_load F7 (wpAny_pure (h h' tk d' acc.toList ms hk (Heap.lt_size F7) i1 p1)))
theorem oj {Q:Value->Shared->Prop} (hh:A.handled=none) (hS:jo prog w s.heap a (kl w) ns) (PR:ns.length < 64)
  (h:∀ (D:Addr) (h':Heap) (tk:Nat) (d':Drawn) (out:Array Value) (n:Nat) (ms:List Int),s.heap.objs.size<=D->(∀ b o,s.heap.get? b=some o->h'.get? b=some o)->h'.get? D=some (seqObj "list" out n)->IntsAre out.toList ms->ms.Perm ns->ms.Pairwise (·<=·)->Q (.ref D) { s with heap:=h',toks:=tk,drawn:=d' }):
  wpAny (model prog w) A (call (.builtin "sorted") [.ref a]) Q E s:=by
 refine call_function_entry kind_sorted plain_sorted entry_sorted (args_sorted1 _) ?_
 unfold Builtin.«sorted»
 refine wpAny_bind (m:=checkCount "sorted" 1 1 _) (wpAny_pure ?_)
 refine wpAny_bind (u0 (A:=A.in1) hh hS fun h' tk d' vs ms hk Wp hi hp=>?_)
 have hl:vs.length=ns.length:=by rw [<- hp.length_eq,(c8.mp hi).2,List.length_map]
 have Wq:vs.length<=sizeLine:=by rw [sizeLine_eq]; omega
 refine wpAny_bind (wpAny_newList ?_ Wq)
 have LK:(h'.push (seqObj "list" vs.toArray 0)).get? h'.objs.size=some (seqObj "list" vs.toArray 0):=Heap.get?_push_size _ rfl
 refine wpAny_bind (wpAny_holding (wpAny_call_entry slot_list_sort ⟨_,LK,rfl⟩ entry_list_sort (list_sort_tree LK hi (by omega) fun out Wr a1 a2 a3=>⟨_,rfl,?_⟩) (args_list_sort _)))
 obtain ⟨en,Ws⟩:=sortedHeap_at (out:=out) LK
 refine wpAny_pure ⟨_,rfl,h h'.objs.size _ tk d' out en Wr (Nat.le_of_lt Wp) (fun b o e=>?_) Ws a1 (a2.trans hp) a3⟩
 have hb:=Heap.lt_size (hk b o e)
 rw [sortedHeap_old (Nat.ne_of_lt hb) (by rw [size_push']; exact Nat.lt_succ_of_lt hb)]
 exact Heap.get?_push_of_some _ (hk b o e)
end
end LS
namespace L2
open PySem PySem.Spec PyProof.Rows LS
def ins (x:Int):List Int->List Int
 | []=>[x]
 | y :: l=>if x < y then x :: y :: l else if x=y then y :: l else y :: ins x l
def ss:List Int->List Int
 | []=>[]
 | x :: l=>ins x (ss l)
set_option tactic.hygienic true in
theorem sD {x z:Int}:∀ {l:List Int},z∈ins x l↔z=x \/ z∈l
 | []=>by simp [ins]
 | y :: l=>by
   rw [ins]
   split
   ·simp
   ·split
    ·rename_i h; subst h; simp
    ·simp only [List.mem_cons,sD]
     constructor
     ·rintro (h | h | h)
      ·exact .inr (.inl h)
      ·exact .inl h
      ·exact .inr (.inr h)
     ·rintro (h | h | h)
      ·exact .inr (.inl h)
      ·exact .inl h
      ·exact .inr (.inr h)
set_option tactic.hygienic true in
theorem o8 {x:Int}:∀ {l:List Int},l.Pairwise (· < ·)->(ins x l).Pairwise (· < ·)
 | [],_=>by simp [ins]
 | y :: l,h=>by
   rw [List.pairwise_cons] at h
   rw [ins]
   split
   ·rename_i Bt
    refine List.pairwise_cons.mpr ⟨fun z hz=>?_,List.pairwise_cons.mpr h⟩
    rcases List.mem_cons.mp hz with e | e
    ·rw [e]; exact Bt
    ·exact Int.lt_trans Bt (h.1 z e)
   ·split
    ·exact List.pairwise_cons.mpr h
    ·refine List.pairwise_cons.mpr ⟨fun z hz=>?_,o8 h.2⟩
     rcases sD.mp hz with e | e
     ·rw [e]; omega
     ·exact h.1 z e
theorem xw {z:Int}:∀ {l:List Int},z∈ss l↔z∈l
 | []=>by simp [ss]
 | x :: l=>by rw [ss,sD,xw,List.mem_cons]
theorem fP:∀ {l:List Int},(ss l).Pairwise (· < ·)
 | []=>.nil
 | _ :: _=>o8 fP
theorem o9:∀ {l m:List Int},l.Pairwise (· < ·)->m.Pairwise (· < ·)->(∀ z,z∈l↔z∈m)->l=m
 | [],[],_,_,_=>rfl
 | [],y :: m,_,_,h=>absurd ((h y).mpr List.mem_cons_self) (by simp)
 | x :: l,[],_,_,h=>absurd ((h x).mp List.mem_cons_self) (by simp)
 | x :: l,y :: m,hl,hm,h=>by
   rw [List.pairwise_cons] at hl hm
   have e:x=y:=by
    rcases List.mem_cons.mp ((h x).mp List.mem_cons_self) with a | a
    ·exact a
    ·rcases List.mem_cons.mp ((h y).mpr List.mem_cons_self) with b | b
     ·exact b.symm
     ·have:=hl.1 y b
      have:=hm.1 x a
      omega
   subst e
   rw [o9 hl.2 hm.2 fun z=>⟨fun hz=>?_,fun hz=>?_⟩]
   ·rcases List.mem_cons.mp ((h z).mp (List.mem_cons_of_mem _ hz)) with a | a
    ·have:=hl.1 z hz; omega
    ·exact a
   ·rcases List.mem_cons.mp ((h z).mpr (List.mem_cons_of_mem _ hz)) with a | a
    ·have:=hm.1 z hz; omega
    ·exact a
theorem zo {l m:List Int} (hm:m.Pairwise (· < ·)) (h:∀ z,z∈m↔z∈l):ss l=m:=o9 fP hm fun z=>by rw [xw,h]
theorem Ga {l:List Int} (h:l.Pairwise (· < ·)):ss l=l:=zo h fun _=>.rfl
section
variable {X:Cx} {pins:List (Addr×Obj)} {σ:St} {H:Hp} {s:Shared}
theorem Inv.drew (I:Inv X pins σ H s) (d':Drawn):Inv X pins σ H { s with drawn:=d' }:=
 I.step (d':=d') (g':=s.gens) (t':=s.toks) (ch:=[]) (fun b hb=>by simp at hb) (fun _ _ _ _ _ e _=>e) (fun b o _ _ _ e _=>⟨o.slots,e⟩) (fun _ _ _ _ n=>n) (fun b o _ e=>⟨o,e⟩) (fun _ _ e=>e) (fun _ _ _ e=>e)
  (fun b ps e=>⟨#[],by rw [e]; simp⟩) (fun _ h=>h) I.be I.bare
def Gb (P:Program) (w:World) (a:Addr) (ns:List Int):HO:=.ext fun h=>jo P w h a (kl w) ns
def PU (P:Program) (w:World) (K:PySem.W.Frag):List V->Hp->VK->Prop:=fun xs H Q=>∃ (p:Addr) (ms:List Int),xs=[.ref p] /\ (gN K H p (ms.map V.int) \/ jB K H p (ms.map V.int)) /\ ms.length + 1 < scanBound /\
 ∀ (l:Addr) (ns:List Int),H l=none->(∀ x,x∈ns↔x∈ms)->ns.length<=ms.length->Q (.ref l) (upd H l (Gb P w l ns))
theorem AA (hc:X.calm=true):ee X (.type "set") (PU X.prog X.w X.K):=by
 intro pins s σ H xs us Q I r h
 obtain ⟨p,ms,rfl,hq,hb,q⟩:=h
 obtain ⟨u,rfl,rx⟩:=vals1 r
 cases rx
 have hh:=I.ok.hd hc
 have fin:∀ (h':Heap) (tk:Nat) (ns:List Int),jo X.prog X.w h' s.heap.objs.size (kl X.w) ns->(∀ x,x∈ns↔x∈ms)->ns.length<=ms.length->(∀ b o,s.heap.get? b=some o->h'.get? b=some o)->EP X pins σ Q (.ref s.heap.objs.size) { s with heap:=h',toks:=tk }:=fun h' tk ns S m l k=>
  ⟨.ref s.heap.objs.size,_,I.laid (o:=Gb X.prog X.w s.heap.objs.size ns) k (Nat.le_refl _) ⟨S,(let ⟨o,_,_,_,e,_⟩:=S; ⟨o,e⟩),fun h1 h2 S1 kk=>S1.keeps kk⟩,rfl,q _ ns (I.be.fresh (Nat.le_refl _)) m l⟩
 rcases hq with hq | hq
 ·obtain ⟨its,rv,pl,_⟩:=I.list hq
  have hi:IntsAre its ms:=intsAre_of rv
  have hl:its.length=ms.length:=by rw [(c8.mp hi).2,List.length_map]
  exact uY hh (src_list pl.isList) hi (by rw [List.size_toArray,hl]; exact hb) fin
 ·obtain ⟨its,rv,pl,_⟩:=I.tuple hq
  have hi:IntsAre its ms:=intsAre_of rv
  have hl:its.length=ms.length:=by rw [(c8.mp hi).2,List.length_map]
  exact uY hh (src_tuple (show s.heap.IsTuple p its.toArray from pl)) hi (by rw [List.size_toArray,hl]; exact hb) fin
def CY (P:Program) (w:World):List V->Hp->VK->Prop:=fun xs H Q=>∃ (p:Addr) (ns:List Int),xs=[.ref p] /\ H p=some (Gb P w p ns) /\ ns.length < 64 /\ ∀ (l:Addr) (out:List Int),H l=none->out.Pairwise (· < ·)->(∀ x,x∈out↔x∈ns)->Q (.ref l) (upd H l (.lst (out.map V.int)))
theorem u3:∀ {vs:List Value} {ns:List Int},IntsAre vs ns->a4 (ns.map V.int) vs
 | _,_,.nil=>.nil
 | _,_,.cons n t h=>.cons ⟨t,rfl⟩ (u3 h)
theorem Gc {prog:Program} {w:World} {h:Heap} {a:Addr} {led:Bool} {ns:List Int} (h:jo prog w h a led ns):ns.Nodup:=by
 obtain ⟨_,_,_,_,_,_,_,_,_,z,_⟩:=h
 exact z
theorem sE (hc:X.calm=true):ee X (.builtin "sorted") (CY X.prog X.w):=by
 intro pins s σ H xs us Q I r h
 obtain ⟨p,ns,rfl,hp,PR,q⟩:=h
 obtain ⟨u,rfl,rx⟩:=vals1 r
 cases rx
 have hS:jo X.prog X.w s.heap p (kl X.w) ns:=(show bN X.prog X.w H s.heap p (Gb X.prog X.w p ns) from I.be p _ hp).1
 have nd:ns.Nodup:=Gc hS
 refine oj (I.ok.hd hc) hS PR fun D h' tk d' out n ms hD k e hi CZ MG=>?_
 have hl:ms.length=ns.length:=CZ.length_eq
 have J:=(I.drew d').laid (t':=tk) (o:=.lst (ms.map V.int)) (h':=h') k hD ⟨by rw [List.length_map,sizeLine_eq]; omega,out.toList,n,u3 hi,by simpa using e⟩
 refine ⟨.ref D,_,J,rfl,q D ms (I.be.fresh hD) ?_ fun x=>CZ.mem_iff⟩
 have Wt:ms.Nodup:=CZ.nodup_iff.mpr nd
 refine (List.Pairwise.and MG Wt).imp fun {a b} Lj=>?_
 have:=Lj.1
 have:=Lj.2
 omega
end
theorem JR:bootBuiltins "set"=some (.type "set"):=by decide +kernel
theorem AB:bootBuiltins "sorted"=some (.builtin "sorted"):=by decide +kernel
def pd:List D->Option (List Int)
 | []=>some []
 | .int i :: l=>(pd l).map (i :: ·)
 | _ :: _=>none
theorem rA:∀ (ns:List Int),pd (ns.map .int)=some ns
 | []=>rfl
 | n :: ns=>by rw [List.map_cons,pd,rA ns]; rfl
theorem lu:∀ {l:List D} {ns:List Int},pd l=some ns->l=ns.map .int
 | [],_,h=>by cases h; rfl
 | d :: l,ns,h=>by
   cases d with
   | int i=>
     rw [pd] at h
     cases e:pd l with
     | none=>rw [e] at h; cases h
     | some m=>rw [e] at h; cases h; rw [lu e]; rfl
   | _=>cases h
def JS:D->Option (List D)
 | .list l=>some l
 | .tuple l=>some l
 | _=>none
def Gd (g:DS->Option D):DS->Option (List D):=fun δ=>(g δ).bind fun d=>(JS d).bind fun l=>(pd l).bind fun ns=>if ns.length < 64 then some ((ss ns).map .int) else none
theorem cj.toInts {K:PySem.W.Frag} {H:Hp}:∀ {ns:List Int} {xs:List V},cj K H xs (ns.map PyData.int)->xs=ns.map V.int
 | [],_,h=>by cases h; rfl
 | n :: ns,_,h=>by
   rw [List.map_cons] at h
   cases h with
   | cons a t=>cases a; rw [cj.toInts t]; rfl
set_option tactic.hygienic true in
theorem jJ {X:Cx} {O:List Nat} {e:Expr} {ge:DS->Option D} {p1 p2 q1 q2:Pos} (h1:X.mg "sorted"=none) (h2:X.mg "set"=none) (he:PE X e (gU X.K O ge)) (hc:X.calm=true:=by rfl) (g1:Gl X "sorted":=by rfl) (g2:Gl X "set":=by rfl)
  (s1:starEach [Expr.Call (.Name "set" p2) [e] [] q2] X.env=(false,eval (Expr.Call (.Name "set" p2) [e] [] q2) X.env) :: starEach [] X.env:=by rfl) (s2:starEach [e] X.env=(false,eval e X.env) :: starEach [] X.env:=by rfl)
  (b1:(backTo q1 (starEach [] X.env)).any (·.1)=false:=by rfl) (b2:(backTo q2 (starEach [] X.env)).any (·.1)=false:=by rfl):
  PE X (.Call (.Name "sorted" p1) [.Call (.Name "set" p2) [e] [] q2] [] q1) (tN X.K O (Gd ge)):=
 (lV (sE hc) g1 h1 AB (bg (mU (AA hc) g2 h2 JR (bg he cn s2) (by decide) (by decide) s2 b2) cn s1) (by decide) (by decide) s1 b1).mono fun σ H Q hh=>hh.e fun U A0 δ ds R ed q=>by
  obtain ⟨d,e1,ed⟩:=bind1 ed
  obtain ⟨l,e2,ed⟩:=bind1 ed
  obtain ⟨ns,e3,ed⟩:=bind1 ed
  split at ed
  ·rename_i PR
   cases ed
   refine ⟨U,A0,δ,d,R,e1,fun v H1 s1 hv=>?_⟩
   have row:∃ p,v=.ref p /\ (gN X.K H1 p (ns.map V.int) \/ jB X.K H1 p (ns.map V.int)):=by
    unfold JS at e2
    split at e2
    ·cases e2
     obtain ⟨p,xs,rfl,r1,r2⟩:=hv.list
     rw [lu e3] at r2
     rw [<- r2.toInts]
     exact ⟨p,rfl,.inl r1.sq⟩
    ·cases e2
     obtain ⟨p,xs,rfl,r1,r2⟩:=hv.tuple
     rw [lu e3] at r2
     rw [<- r2.toInts]
     exact ⟨p,rfl,.inr r1⟩
    ·cases e2
   obtain ⟨p,rfl,JT⟩:=row
   refine ⟨p,ns,rfl,JT,by unfold scanBound; omega,fun l1 ms Lp hm hle=>?_⟩
   refine ⟨l1,ms,rfl,aZ,by omega,fun l2 out xf hr F8=>?_⟩
   have eo:out=ss ns:=(zo hr fun z=>by rw [F8,hm]).symm
   subst eo
   refine q l2 _ _ (s1.trans ((bG Lp _).trans (bG xf _))) (s1.free ((bG Lp _).free xf)) aZ (cj.ints _)
  ·cases ed
end L2
namespace L2
open PySem PySem.Spec PyProof.Rows
section
variable {prog:Program} {w:World} {A:Around} {R:Result->Shared->Prop} {s:Shared}
theorem sF {elt target iter:Expr} {ifs:List Expr} {scope:Scope} {pos:Pos} {it acc:Value} {env:Env} (I:Nat->Shared->Prop)
  (turn:∀ n s,I n s->wpAny (model prog w) A (pyNext it) (fun r bf=>match r with
   | none=>R (.ok .next) bf
   | some v=>wpAny (model prog w) A (letOwnedTupleGo target it v) (fun _ jA=>wpAny (model prog w) A (assign target env v) (fun _ mW=>
     wpAny (model prog w) A (forIn ifs true fun c r=>if r=true then do let ok <- isTrue c env (eval c env); pure (ForInStep.yield ok) else pure (ForInStep.yield r)) (fun ok xx=>
      if ok=true then wpAny (model prog w) A (eval elt env) (fun x MH=>
       wpAny (model prog w) A (call (.builtin "list.append") [acc,x]) (fun _ MI=>∃ m,m < n /\ I m MI) (notedBy (model prog w) A env fun e s'=>R (.error e) s') MH) (notedBy (model prog w) A env fun e s'=>R (.error e) s') xx
      else ∃ m,m < n /\ I m xx) (notedBy (model prog w) A env fun e s'=>R (.error e) s') mW) (notedBy (model prog w) A env fun e s'=>R (.error e) s') jA) (notedBy (model prog w) A env fun e s'=>R (.error e) s') bf) (notedBy (model prog w) A env fun e s'=>R (.error e) s') s)
  (n:Nat) (h:I n s):codeAny (model prog w) A (.compLoop (.ListComp elt [⟨target,iter,ifs,0⟩] scope pos) 0 it acc env) R s:=by
 refine codeAny_loop rfl I (fun n s hI=>?_) n h
 show wpAny _ A ((compTurn (.ListComp elt [⟨target,iter,ifs,0⟩] scope pos) 0 it acc env).onRaise (fun x=>do noteFrame x env; theTreesLotGoes x)) _ _ s
 refine wpAny_noted ?_
 rw [compTurn_list]
 refine wpAny_bind (wpAny_standAt (wpAny_bind (wpAny_mono (turn n s hI) (fun r bf lj=>?_) fun _ _ z=>z)))
 cases r with
 | none=>exact wpAny_pure lj
 | some v=>
   refine wpAny_bind (wpAny_mono lj (fun _ jA rZ=>wpAny_bind (wpAny_mono rZ (fun _ mW Jp=>wpAny_bind (wpAny_mono Jp (fun ok xx MJ=>?_) fun _ _ z=>z)) fun _ _ z=>z)) fun _ _ z=>z)
   cases ok with
   | false=>exact wpAny_pure ⟨rfl,MJ⟩
   | true=>exact wpAny_bind (wpAny_bind (wpAny_mono MJ (fun x MH PV=>wpAny_bind (wpAny_mono PV (fun _ MI PX=>wpAny_pure (wpAny_pure ⟨rfl,PX⟩)) fun _ _ z=>z)) fun _ _ z=>z))
end
def PF (X:Cx) (ifs:List Expr) (t:TT):Prop:=
 ∀ (pins:List (Addr×Obj)) (s:Shared) (σ:St) (H:Hp) (Q:Bool->Hp->Prop),Inv X pins σ H s->t σ H Q->
   wpAny (model X.prog X.w) X.A (forIn ifs true fun c r=>if r=true then do let ok <- isTrue c X.env (eval c X.env); pure (ForInStep.yield ok) else pure (ForInStep.yield r)) (TP X pins σ Q) X.xe s
def PY:TT:=fun _ H Q=>Q true H
theorem JU {X:Cx}:PF X [] PY:=fun _ _ _ H _ I q=>wpAny_pure ⟨H,I,q⟩
theorem iz {X:Cx} {c:Expr} {t:TT} (h:PT X c t):PF X [c] t:=fun pins s σ H Q I q=>wpAny_tests_one (h pins s σ H Q I q)
section
variable {X:Cx}
structure kR (X:Cx) (scope:Scope) (xs:List Str) (ix:List Nat) (N':List Str):Prop where
 kind:scope.kind=.function
 ni:∀ y∈scope.names,y.2≠.cell
 names:∀ y∈scope.names,y.2=.local->scope.names.lookup y.1=some .local
 free:∀ y∈scope.names,y.2=.free->X.env.kindOf y.1=some .cell \/ X.env.kindOf y.1=some .free
 only:∀ n,(X.env.scope.kind=.function)->((relabel scope X.env).names.lookup n=some .cell \/ (relabel scope X.env).names.lookup n=some .free)->(n,NameKind.free)∈scope.names
 nm:N'=xs ++ ix.map fun j=>X.N.getD j ""
 Wu:∀ j∈ix,j < X.N.length /\ (X.N.getD j "",NameKind.free)∈scope.names /\ ((relabel scope X.env).names.lookup (X.N.getD j "")=some .cell \/ (relabel scope X.env).names.lookup (X.N.getD j "")=some .free)
section
variable {scope:Scope} {xs:List Str} {ix:List Nat} {N':List Str} {cl:List (Str×Addr)} {C:Addr} {s2 s3:Shared} {H2:Hp} {fp:List Addr} {pins:List (Addr×Obj)} {σ:St}
theorem C0 (S:kR X scope xs ix N') (I:Inv X pins σ H2 s2) (hC:s2.heap.objs.size<=C) (h1:∀ n c,cl.lookup n=some c->X.env.cells.lookup n=some c) (h2:∀ n,(n,NameKind.free)∈scope.names->∃ c,cl.lookup n=some c)
  (hf:∀ b∈fp,n8 X pins H2 b) (zp:∀ b∈fp,b < s2.heap.objs.size):(bp X scope N' cl C s2 H2 fp pins).Ok where
 mod:=I.ok.mod
 kind:=by show (relabel scope X.env).kind=_; exact S.kind
 glob:=I.ok.glob
 blt:=I.ok.blt
 above:=hC
 inj:=fun a b c e1 e2=>I.ok.inj a b c (h1 _ _ e1) (h1 _ _ e2)
 has:=fun a h=>h2 a (S.only a I.ok.kind h)
 BA:=fun a c h=>by cases h
 hd:=I.ok.hd
 frames:=I.ok.frames
 E6:=.inl rfl
 IA:=fun b hb=>⟨Nat.ne_of_lt (Nat.lt_of_lt_of_le (zp b hb) hC),fun a c e=>(hf b hb).2.2.2.2.1 a c (h1 _ _ e)⟩
 bs:=I.bs
 yY:=Nat.le_trans I.ok.yY I.sz
 qh:=fun b o e hb=>by
  rcases (hf b hb).2.2.2.1 with z | z
  ·exact I.ok.qh b o e z
  ·have:=(I.ok.bs b o e).1
   exact absurd (Nat.lt_of_lt_of_le (Heap.lt_size this) z) (Nat.lt_irrefl _)
 rR:=fun b hb z=>by
  rcases List.mem_cons.mp (I.jx b z) with e | e
  ·exact (hf b hb).2.1 e
  ·exact (hf b hb).2.2.1 e
 ig:=I.stack
 wR:=I.om
theorem AD (S:kR X scope xs ix N') (I:Inv X pins σ H2 s2) (hC:s2.heap.objs.size<=C) (h1:∀ n c,cl.lookup n=some c->X.env.cells.lookup n=some c) (h2:∀ n,(n,NameKind.free)∈scope.names->∃ c,cl.lookup n=some c)
  (hf:∀ b∈fp,n8 X pins H2 b) (zp:∀ b∈fp,b < s2.heap.objs.size) (PZ:s3.os=s2.os) (hg:s3.gens=s2.gens) (k:∀ b o,s2.heap.get? b=some o->s3.heap.get? b=some o) {m:Str->Option Value} (hn:s3.heap.Ns C m):
  Inv (bp X scope N' cl C s2 H2 fp pins) [] (List.replicate xs.length none ++ ql ix σ) H2 s3 where
 ok:=C0 S I hC h1 h2 hf zp
 os:=PZ
 bare:=by rw [hg]; exact I.bare
 base:=⟨fun b o e _ _ _=>k b o e,fun b o e _ _ _=>⟨o.slots,k b o e⟩,fun b o e n _=>n,fun b o e _=>⟨o,k b o e⟩,fun _ _ e=>e,fun _ _ _ e=>e,fun b ps e=>⟨#[],by rw [Array.append_empty]; exact e⟩⟩
 loc:=by
  refine ⟨m,hn,fun i y v e1 e2 e3=>?_⟩
  by_cases hi:i < xs.length
  ·rw [List.getElem?_append_left (by simpa using hi),List.getElem?_replicate,if_pos hi] at e2
   cases e2
  ·have MK:(ql ix σ)[i - xs.length]?=some (some v):=by rw [List.getElem?_append_right (by simp; omega)] at e2; simpa using e2
   obtain ⟨j,ej,es⟩:=Cp MK
   have Lq:N'[i]?=some y:=e1
   rw [S.nm,List.getElem?_append_right (by omega),List.getElem?_map,ej] at Lq
   have ey:X.N.getD j ""=y:=Option.some.inj Lq
   obtain ⟨hj,jn,hk⟩:=S.Wu j (List.mem_of_getElem? ej)
   obtain ⟨m0,Z6,Wv⟩:=I.loc
   have eN:X.N[j]?=some y:=by rw [<- ey,List.getD_eq_getElem?_getD,List.getElem?_eq_getElem hj]; rfl
   have kd:=S.free _ jn rfl
   have hv:K8 X.env.scope y:=by
    rw [<- ey]
    rcases kd with z | z
    ·exact .inr (.inl z)
    ·exact .inr (.inr z)
   obtain ⟨u,r,l⟩:=Wv j y v eN es hv
   refine ⟨u,r,.inr ?_⟩
   rcases l with ⟨q,_⟩ | ⟨_,c,ec,z⟩
   ·have Ww:X.env.kindOf y=some .cell \/ X.env.kindOf y=some .free:=by rw [<- ey]; exact kd
    rcases Ww with w | w <;> rw [q] at w <;> cases w
   ·obtain ⟨c',e'⟩:=h2 _ jn
    rw [ey] at e'
    have:=h1 _ _ e'
    rw [ec] at this; cases this
    obtain ⟨o,ho,hd⟩:=z
    exact ⟨by rw [<- ey]; exact hk,c,e',o,k c o ho,hd⟩
 cell:=fun a c e=>by
  obtain ⟨v,o,ho,hd⟩:=I.cell a c (h1 _ _ e)
  exact ⟨v,o,k c o ho,hd⟩
 free:=I.be.fresh hC
 fq:=fun a c e=>I.fq a c (h1 _ _ e)
 pin:=fun p hp=>by
  have N5:p∈X.pn ++ pins:=by
   rcases List.mem_append.mp hp with z | z
   ·exact z
   ·simp at z
  obtain ⟨e,n,ne,nf,d⟩:=I.pin p N5
  refine ⟨k _ _ e,n,Nat.ne_of_lt (Nat.lt_of_lt_of_le (Heap.lt_size e) hC),fun z=>?_,d⟩
  rcases List.mem_cons.mp (I.jx _ z) with q | q
  ·exact ne q
  ·exact nf q
 be:=I.be.kept k
 len:=by
  show (List.replicate xs.length none ++ ql ix σ).length=N'.length
  rw [S.nm]
  unfold ql
  simp
end
def sG (J:It) (k:Nat) (ix:List Nat) (g:TG) (tc:TT) (te:TE) (σ:St) (H:Hp) (Q:VK):Prop:=∃ W:Nat->Nat->List V->St->Hp->Prop,(∃ m,W 0 m [] (List.replicate k none ++ ql ix σ) H) /\ ∀ i m ys τ H,W i m ys τ H->ys.length<=sizeLine /\
 ((J.stop i H /\ ∀ p,H p=none->Q (.ref p) (upd H p (.lst ys))) \/ (J.go i H /\ ys.length < sizeLine /\ ∀ v H',J.LR i H v H'->g v τ H' fun AE H2=>tc AE H2 fun b H3=>
   if b=true then te AE H3 fun y H4=>∃ m',m' < m /\ W (i + 1) m' (ys ++ [y]) AE H4 else ∃ m',m' < m /\ W (i + 1) m' ys AE H3))
def xy (wi:TI) (k:Nat) (ix:List Nat) (g:TG) (tc:TT) (te:TE):TE:=fun σ H Q=>wi σ H fun J H1=>sG J k ix g tc te σ H1 Q
section
variable {scope:Scope} {xs:List Str} {ix:List Nat} {N':List Str} {elt iter tg:Expr} {ifs:List Expr} {pos:Pos} {wi:TI} {te:TE} {tc:TT} {g:TG}
structure UZ (X':Cx) (D:Addr) (fp:List Addr) (tn:Nat->Heap->Prop) (W:Nat->Nat->List V->St->Hp->Prop) (n:Nat) (s':Shared) (i:Nat) (ys:List V) (its:List Value) (k:Nat) (cb:St) (H':Hp):Prop where
 I:Inv X' [(D,zb its k)] cb H' s'
 st:tn i s'.heap
 fr:∀ b∈fp,H' b=none
 w:W i n ys cb H'
 rv:a4 ys its
def MM (X':Cx) (D:Addr) (fp:List Addr) (tn:Nat->Heap->Prop) (W:Nat->Nat->List V->St->Hp->Prop) (n:Nat) (s':Shared):Prop:=∃ i ys its k cb H',UZ X' D fp tn W n s' i ys its k cb H'
theorem JV {X':Cx} {D:Addr} {fp:List Addr} {tn:Nat->Heap->Prop} {W:Nat->Nat->List V->St->Hp->Prop} {n:Nat} {s':Shared} {P:Prop} (h:MM X' D fp tn W n s') (k:∀ i ys its k cb H',UZ X' D fp tn W n s' i ys its k cb H'->P):P:=by
 obtain ⟨_,_,_,_,_,_,t⟩:=h
 exact k _ _ _ _ _ _ t
theorem MN {gd:Cx->Prop} {X:Cx} {pins:List (Addr×Obj)} {σ:St} {tg:Expr} {R:It->Hp->Prop} {EO:Value} {s2:Shared} {P:Value->Prop} (h:BM gd X pins σ tg R EO s2) (k:∀ it fp tn J H',Inv X pins σ H' s2->y3 gd X.prog X.w X.K tg J fp it tn->tn 0 s2.heap->(∀ b∈fp,n8 X pins H' b)->R J H'->P (.ref it)):P EO:=by
 obtain ⟨it,fp,tn,J,H',rfl,a,b,c,d,e⟩:=h
 exact k it fp tn J H' a b c d e
theorem rB (S:kR X scope xs ix N') {gd:Cx->Prop} (hc:∀ cl C s2 H2 fp pins,gd (bp X scope N' cl C s2 H2 fp pins)) (hg:∀ cl C s2 H2 fp pins,PG (bp X scope N' cl C s2 H2 fp pins) tg g) (hf:∀ cl C s2 H2 fp pins,PF (bp X scope N' cl C s2 H2 fp pins) ifs tc) (pe:∀ cl C s2 H2 fp pins,PE (bp X scope N' cl C s2 H2 fp pins) elt te)
  {pins:List (Addr×Obj)} {σ:St} {s2:Shared} {Q:VK} {EO:Value} (h:BM gd X pins σ tg (fun J H1=>sG J xs.length ix g tc te σ H1 Q) EO s2) {cl:List (Str×Addr)} (h1:∀ n c,cl.lookup n=some c->X.env.cells.lookup n=some c) (h2:∀ n,(n,NameKind.free)∈scope.names->∃ c,cl.lookup n=some c)
  {use:Option (Value->Sem Unit)} {QQ:Value->Shared->Prop}
  (fin:∀ (D C:Addr) (H':Hp) (s1:Shared) (m:Str->Option Value),s1.heap.Ns C m->H' C=none->X.fm.heap.objs.size<=C->C≠X.env.locals->(∀ a c,X.env.cells.lookup a=some c->c≠C)->(∀ p∈X.pn ++ pins,p.1≠C)->(∀ h',Heap.SameBut C s1.heap h'->Inv X pins σ H' { s1 with heap:=h' })->Q (.ref D) H'->
   compPost (model X.prog X.w) X.A X.xe use QQ (.ref D) C (.ok .next) s1):
  wpAny (model X.prog X.w) X.A (newList []) (fun acc mW=>wpAny (model X.prog X.w) X.A (newFunctionEnv scope X.env.globals cl [] X.env.qual none .none (some X.env)) (fun C1 xx=>
   codeAny (model X.prog X.w) X.A (.compStart (.ListComp elt [⟨tg,iter,ifs,0⟩] scope pos) 0 EO acc { C1 with scope:=relabel scope X.env }) (compPost (model X.prog X.w) X.A X.xe use QQ acc C1.locals) xx) X.xe mW) X.xe s2:=by
 refine MN (P:=fun EO=>wpAny (model X.prog X.w) X.A (newList []) (fun acc mW=>wpAny (model X.prog X.w) X.A (newFunctionEnv scope X.env.globals cl [] X.env.qual none .none (some X.env)) (fun C1 xx=>
   codeAny (model X.prog X.w) X.A (.compStart (.ListComp elt [⟨tg,iter,ifs,0⟩] scope pos) 0 EO acc { C1 with scope:=relabel scope X.env }) (compPost (model X.prog X.w) X.A X.xe use QQ acc C1.locals) xx) X.xe mW) X.xe s2) h fun it fp tn J H1 I2 T gn f2 hR=>?_
 clear h
 obtain ⟨W,⟨m0,w0⟩,turn⟩:=hR
 have zp:∀ b∈fp,b < s2.heap.objs.size:=fun b hb=>by
  obtain ⟨o,e,_⟩:=T.obj _ _ gn b hb
  exact Heap.lt_size e
 refine wpAny_newObj_type (wpAny_newFunctionEnv S.ni (by intro y hy; simp at hy) (fun lj xA sH=>?_) S.kind)
 dsimp only at xA sH ⊢
 generalize MO:s2.heap.push { cls:=.type "list",dict:=none,data:=.seq ([]:List Value).toArray }=P2 at xA sH ⊢
 have hC:P2.objs.size=s2.heap.objs.size + 1:=by rw [<- MO,Heap.size_push]
 have HG:s2.heap.objs.size≠P2.objs.size:=by rw [hC]; exact Nat.ne_of_lt (Nat.lt_succ_self _)
 have xB:s2.heap.objs.size<=P2.objs.size:=by rw [hC]; exact Nat.le_succ _
 have below:∀ b,b < s2.heap.objs.size->b≠P2.objs.size:=fun b hb=>by rw [hC]; exact Nat.ne_of_lt (Nat.lt_succ_of_lt hb)
 have old:∀ b o,s2.heap.get? b=some o->lj.get? b=some o:=fun b o e=>sH.extBut b o (below b (Heap.lt_size e)) (Heap.get?_push_of_some _ (MO ▸ Heap.get?_push_of_some _ e))
 have oh:lj.get? s2.heap.objs.size=some (zb [] 0):=sH.extBut _ _ HG (Heap.get?_push_of_some _ (MO ▸ Heap.get?_push_size _ rfl))
 generalize P2.objs.size=C at *
 generalize C3:s2.heap.objs.size=D at *
 have U0:∀ p∈X.pn ++ pins,p.1≠D /\ p.1≠C:=fun p hp=>by
  have:=Heap.lt_size (I2.pin p hp).1
  rw [C3] at this
  exact ⟨Nat.ne_of_lt this,Nat.ne_of_lt (Nat.lt_of_lt_of_le this xB)⟩
 have P4:D∉fp:=fun hb=>Nat.lt_irrefl _ (zp D hb)
 have Wx:C∉fp:=fun hb=>absurd (Nat.lt_of_lt_of_le (zp C hb) xB) (Nat.lt_irrefl _)
 have Ib:∀ a c,X.env.cells.lookup a=some c->c≠D /\ c≠C:=fun a c e=>by
  obtain ⟨v,q⟩:=I2.cell a c e
  have:=q.lt
  rw [C3] at this
  exact ⟨Nat.ne_of_lt this,Nat.ne_of_lt (Nat.lt_of_lt_of_le this xB)⟩
 have MP:X.env.locals < D:=by have:=I2.lt; rw [C3] at this; exact this
 have Wy:X.fm.heap.objs.size<=D:=by rw [<- C3]; exact I2.sz
 have I3:=AD (s3:={ s2 with heap:=lj,toks:=s2.toks + ([]:List (Str×Value)).length }) S I2 (by rw [C3]; exact xB) h1 h2 f2 (by rw [C3]; exact zp) rfl rfl old xA
 have wX:∀ {H':Hp} {pp:List (Addr×Obj)},(∀ p∈pp,p.1∉fp)->(∀ b∈fp,H' b=none)->∀ b∈fp,n8 (bp X scope N' cl C s2 H1 fp pins) pp H' b:=fun {H' pp} MQ hn b hb=>by
  obtain ⟨f0,f1,f3,f4,f5,f6⟩:=f2 b hb
  refine ⟨hn b hb,fun z=>Wx (by rw [<- show b=C from z]; exact hb),fun z=>?_,.inl hb,fun a c e=>f5 a c (h1 _ _ e),fun p hp=>?_⟩
  ·rcases List.mem_cons.mp (I2.jx b z) with q | q
   ·exact f1 q
   ·exact f3 q
  ·rcases List.mem_append.mp hp with q | q
   ·exact f6 p q
   ·intro z; exact MQ p q (by rw [z]; exact hb)
 have U1:∀ b,D<=b->b∉j5 X.stack:=fun b hb z=>by
  rcases List.mem_cons.mp (I2.jx b z) with q | q
  ·rw [q] at hb; exact absurd (Nat.lt_of_lt_of_le MP hb) (Nat.lt_irrefl _)
  ·exact I2.LG (by rw [C3]; exact hb) q
 have loop:∀ mW:Shared,mW={ s2 with heap:=lj,toks:=s2.toks + ([]:List (Str×Value)).length }->
   codeAny (model X.prog X.w) X.A (.compLoop (.ListComp elt [⟨tg,iter,ifs,0⟩] scope pos) 0 (.ref it) (.ref D) (compEnvC scope cl C X.env)) (compPost (model X.prog X.w) X.A X.xe use QQ (.ref D) C) mW:=by
  rintro mW rfl
  refine sF (MM (bp X scope N' cl C s2 H1 fp pins) D fp tn W) ?_ m0
   ⟨0,[],[],0,_,H1,?_,T.keep _ _ _ gn (fun b hb o e=>old b o e),fun b hb=>(f2 b hb).1,w0,.nil⟩
  ·refine fun n s' z=>JV z fun i ys its k cb H' t=>?_
   have I:=t.I
   have st:=t.st
   have fr:=t.fr
   have rv:=t.rv
   obtain ⟨hz,w⟩:=turn i n ys cb H' t.w
   have pD:=I.pin (D,zb its k) (List.mem_append_right _ List.mem_cons_self)
   have MQ:∀ p∈[(D,zb its k)],p.1∉fp:=fun p hp=>by
    have e:p=(D,zb its k):=by simpa using hp
    rw [e]; exact P4
   rcases w with ⟨stop,q⟩ | ⟨go,N6,step⟩
   ·refine wpAny_mono (T.done (bp X scope N' cl C s2 H1 fp pins) rfl rfl rfl (hc _ _ _ _ _ _) i _ s' _ H' (fun _ _=>False) I (wX MQ fr) st stop) (fun r s1 hr=>?_) fun _ _ z=>z.elim
    obtain ⟨rfl,I1⟩:=hr
    obtain ⟨m,hn,_⟩:=I1.loc
    have p1:=I1.pin (D,zb its k) (List.mem_append_right _ List.mem_cons_self)
    have fC:H' C=none:=I1.free
    refine fin D C (upd H' D (.lst ys)) s1 m hn (by rw [aB (Ne.symm HG)]; exact fC) (Nat.le_trans Wy xB) (Nat.ne_of_gt (Nat.lt_of_lt_of_le MP xB)) (fun a c e=>(Ib a c e).2) (fun p hp=>(U0 p hp).2) (fun h' hs=>?_) (q D p1.2.1)
    exact Ai (N':=N') I2 (by rw [C3]; exact xB) (by rw [C3]; exact Nat.le_refl _) f2 I1 rv hz hs HG
   ·refine wpAny_mono (T.item (bp X scope N' cl C s2 H1 fp pins) rfl rfl rfl (hc _ _ _ _ _ _) i _ s' _ H' (fun _ _=>False) I (wX MQ fr) st go) (fun r s4 hr=>?_) fun _ _ z=>z.elim
    obtain ⟨u,rfl,h4⟩:=hr
    refine wpAny_mono h4 (fun _ s5 h5=>?_) fun _ _ z=>z.elim
    obtain ⟨v,H5,I5,r5,y5,Fd,OS⟩:=h5
    have OT:=I5.pinned (wX MQ OS) (T.obj _ _ Fd)
    refine wpAny_mono (hg cl C s2 H1 fp pins _ s5 cb H5 v u _ OT r5 (step v H5 y5)) (fun _ s6 h6=>?_) fun _ _ z=>z.elim
    obtain ⟨AE,H6,I6,q6⟩:=h6
    have gone:∀ {τ:St} {H9:Hp} {s9:Shared},Inv (bp X scope N' cl C s2 H1 fp pins) ([(D,zb its k)] ++ la fp s5.heap) τ H9 s9->tn (i + 1) s9.heap /\ ∀ b∈fp,H9 b=none:=fun {τ H9 s9} I9=>
     ⟨T.keep _ _ _ Fd fun b hb o e=>(I9.pin (b,o) (List.mem_append_right _ (List.mem_append_right _ (fL hb e)))).1,fun b hb=>by
      obtain ⟨o,e,d⟩:=T.obj _ _ Fd b hb
      exact (I9.pin (b,o) (List.mem_append_right _ (List.mem_append_right _ (fL hb e)))).2.1⟩
    refine wpAny_mono (hf cl C s2 H1 fp pins _ s6 AE H6 _ I6 q6) (fun ok Wz WA=>?_) fun _ _ z=>z.elim
    obtain ⟨U3,N7,N8⟩:=WA
    cases ok with
    | false=>
      rw [if_neg Bool.false_ne_true] at N8 ⊢
      obtain ⟨m',P5,w7⟩:=N8
      obtain ⟨g1,g2⟩:=gone N7
      exact ⟨m',P5,i + 1,ys,its,k,AE,U3,N7.kK fun p hp=>N7.pin p (List.mem_append_right _ (List.mem_append_left _ hp)),g1,g2,w7,rv⟩
    | true=>
    rw [if_pos rfl] at N8 ⊢
    refine wpAny_mono (pe cl C s2 H1 fp pins _ Wz AE U3 _ N7 N8) (fun y s7 h7=>?_) fun _ _ z=>z.elim
    obtain ⟨yv,H7,I7,r7,m',P5,w7⟩:=h7
    have p7:=I7.pin (D,zb its k) (List.mem_append_right _ (List.mem_append_left _ List.mem_cons_self))
    have hl:=rv.length
    refine call_meets F.slot_list_append ⟨_,p7.1,rfl⟩ F.entry_list_append (F.args_list_append_2 _ _) (PySem.list_append D its.toArray k y (by rw [List.size_toArray]; omega)) ⟨p7.1,?_⟩
    have q:=PySem.IsL.update p7.1 (·.push y)
    have Ic:∀ b o,b≠D->s7.heap.get? b=some o->(s7.heap.update D (Obj.mapSeq (·.push y))).get? b=some o:=fun b o hb e=>(Heap.get?_update_other s7.heap _ (Ne.symm hb)).trans e
    have I8:Inv (bp X scope N' cl C s2 H1 fp pins) (la fp s5.heap) AE H7 s7:=I7.kK fun p hp=>I7.pin p (List.mem_append_right _ (List.mem_append_right _ hp))
    have I9:Inv (bp X scope N' cl C s2 H1 fp pins) (la fp s5.heap) AE H7 { s7 with heap:=s7.heap.update D (Obj.mapSeq (·.push y)) }:=I8.turned (t':=s7.toks) (it:=D) Ic p7.2.1 HG (.inr (by show s2.heap.objs.size<=D; rw [C3]; exact Nat.le_refl _)) (fun a c e=>(Ib a c (h1 _ _ e)).1) fun p hp z=>by
     rcases List.mem_append.mp hp with z' | z'
     ·exact (U0 p z').1 z
     ·exact P4 (by rw [<- z]; exact (qR z').1)
    refine ⟨m',P5,i + 1,ys ++ [yv],its ++ [y],(if (its.toArray.push y).size == its.toArray.size then k else k + 1),AE,H7,I9.kK (pins':=[(D,zb (its ++ [y]) ((if (its.toArray.push y).size == its.toArray.size then k else k + 1)))]) fun p hp=>?_,T.keep _ _ _ Fd fun b hb o e=>?_,fun b hb=>?_,w7,rv.append (.cons r7 .nil)⟩
    ·have e:p=(D,zb (its ++ [y]) ((if (its.toArray.push y).size == its.toArray.size then k else k + 1))):=by simpa using hp
     subst e
     refine ⟨by rw [q,List.push_toArray],p7.2.1,HG,U1 D (Nat.le_refl _),fun v z=>by cases z⟩
    ·have pb:=I7.pin (b,o) (List.mem_append_right _ (List.mem_append_right _ (fL hb e)))
     exact Ic b o (fun z=>P4 (by rw [<- z]; exact hb)) pb.1
    ·obtain ⟨o,e,d⟩:=T.obj _ _ Fd b hb
     exact (I7.pin (b,o) (List.mem_append_right _ (List.mem_append_right _ (fL hb e)))).2.1
  ·exact I3.kK fun p hp=>by
    have e:p=(D,zb [] 0):=by simpa using hp
    subst e
    exact ⟨oh,I2.be.fresh (by rw [C3]; exact Nat.le_refl _),HG,U1 D (Nat.le_refl _),fun v z=>by cases z⟩
 exact codeAny_compStart_list (loop _ rfl) (T.self _ 0 _ _ _ (T.keep _ _ _ gn fun b hb o e=>old b o e) (loop _ rfl))
theorem rC (S:kR X scope xs ix N') {gd:Cx->Prop} (hc:∀ cl C s2 H2 fp pins,gd (bp X scope N' cl C s2 H2 fp pins)) (hi:LU gd X tg iter wi) (hg:∀ cl C s2 H2 fp pins,PG (bp X scope N' cl C s2 H2 fp pins) tg g) (hf:∀ cl C s2 H2 fp pins,PF (bp X scope N' cl C s2 H2 fp pins) ifs tc) (pe:∀ cl C s2 H2 fp pins,PE (bp X scope N' cl C s2 H2 fp pins) elt te)
  (hs:∀ x,foldedSetIterable iter X.env x=pure x):PE X (.ListComp elt [⟨tg,iter,ifs,0⟩] scope pos) (xy wi xs.length ix g tc te):=by
 intro pins s σ H Q I h
 obtain ⟨cl,mG,h1,h2⟩:=ll (scope:=scope) (env:=X.env) (fun y hy hk=>I.ok.has y.1 (S.free y hy hk))
 rw [eval_ListComp]
 refine wpAny_comprehension_free (use:=none) rfl hs mG S.kind S.names (wpAny_mono (hi pins s σ H _ I h) (fun xv bf lj=>wpAny_mono lj (fun it jA rZ=>?_) fun _ _ e=>e) fun _ _ e=>e)
 exact rB S hc hg hf pe rZ h1 h2 fun D C H' s1 m hn fC c1 c2 c3 c4 hI q=>⟨m,hn,fun h' ng=>⟨.ref D,H',hI h' ng,rfl,q⟩⟩
theorem AF {i:Nat} {y:Str} {py C4:Pos} (S:kR X scope xs ix N') {gd:Cx->Prop} (hc:∀ cl C s2 H2 fp pins,gd (bp X scope N' cl C s2 H2 fp pins)) (hi:LU gd X tg iter wi) (hg:∀ cl C s2 H2 fp pins,PG (bp X scope N' cl C s2 H2 fp pins) tg g) (hf:∀ cl C s2 H2 fp pins,PF (bp X scope N' cl C s2 H2 fp pins) ifs tc) (pe:∀ cl C s2 H2 fp pins,PE (bp X scope N' cl C s2 H2 fp pins) elt te)
  (hs:∀ x,foldedSetIterable iter X.env x=pure x) (P6:X.N.Nodup) (Lo:X.N[i]?=some y) (hy:X.env.scope.names.lookup y=some .local) (P7:swapsWith (.ListComp elt [⟨tg,iter,ifs,0⟩] scope pos) (some (.Name y py)) C4.line X.env=pure true):
  PS X (.Assign [.Name y py] (.ListComp elt [⟨tg,iter,ifs,0⟩] scope pos) C4) (uC (xy wi xs.length ix g tc te) (kW i)):=by
 intro pins s σ H D I h
 obtain ⟨cl,mG,h1,h2⟩:=ll (scope:=scope) (env:=X.env) (fun y hy hk=>I.ok.has y.1 (S.free y hy hk))
 rw [exec_Assign_Name_used _ _ _ _ P7]
 refine wpAny_bind (wpAny_standAt (wpAny_bind ?_))
 show wpAny _ X.A (do let _ <- comprehension (.ListComp elt [⟨tg,iter,ifs,0⟩] scope pos) scope X.env _ (newList []) false (eval iter X.env) (some (assign (.Name y py) X.env))) _ _ s
 refine wpAny_bind (wpAny_mono (wpAny_comprehension_free (use:=some (assign (.Name y py) X.env)) (Q:=fun _ s'=>SP X pins D .next s') rfl hs mG S.kind S.names
  (wpAny_mono (hi pins s σ H _ I h) (fun xv bf lj=>wpAny_mono lj (fun it jA rZ=>?_) fun _ _ e=>e) fun _ _ e=>e)) (fun _ s' hq=>wpAny_pure (wpAny_pure hq)) fun _ _ e=>e)
 refine rB S hc hg hf pe rZ h1 h2 fun A C H' s1 m hn fC c1 c2 c3 c4 hI q=>?_
 have I1:Inv X pins σ H' s1:=hI s1.heap (.refl ..)
 refine wpAny_assign_Name (qQ I1 P6 Lo (.inl hy) (show RelV (.ref A) (.ref A) from rfl) (fun s3 I3 ch=>?_) (.inr hy))
 obtain ⟨a,PZ,ha⟩:=ch
 have WB:C≠a:=by
  rcases ha with z | z
  ·rw [z]; exact c2
  ·intro e; exact c3 y a z e.symm
 refine ⟨m,hn.sameBut PZ WB,fun h' ng=>?_⟩
 exact ⟨_,H',I3.turned (t':=s3.toks) (it:=C) (fun b o hb e=>(ng.2 b hb).trans e) fC c2 (.inr c1) c3 c4,q⟩
end
def km (sc scope:Scope) (N:List Str) (xs:List Str) (ix:List Nat) (N':List Str):Bool:=
 (scope.kind == .function) && scope.names.all (fun y=> !(y.2 == .cell)) && scope.names.all (fun y=> !(y.2 == .local) || (scope.names.lookup y.1 == some .local))
 && scope.names.all (fun y=> !(y.2 == .free) || (sc.names.lookup y.1 == some .cell || sc.names.lookup y.1 == some .free))
 && (FH sc scope).all (fun y=> !(y.2 == .cell || y.2 == .free) || scope.names.any (fun z=>z.1 == y.1 && z.2 == .free))
 && (N' == xs ++ ix.map fun j=>N.getD j "") && ix.all (fun j=>decide (j < N.length) && scope.names.any (fun z=>z.1 == N.getD j "" && z.2 == .free) && ((FH sc scope).lookup (N.getD j "") == some .cell || (FH sc scope).lookup (N.getD j "") == some .free))
theorem lx {sc scope:Scope} {N:List Str} {xs:List Str} {ix:List Nat} {N':List Str} (h:km sc scope N xs ix N'=true) (e1:X.env.scope=sc) (e2:X.N=N):kR X scope xs ix N':=by
 subst e1 e2
 unfold km at h
 simp only [Bool.and_eq_true,List.all_eq_true,Bool.or_eq_true,Bool.not_eq_true',List.any_eq_true,decide_eq_true_eq,beq_iff_eq,beq_eq_false_iff_ne] at h
 obtain ⟨⟨⟨⟨⟨⟨a1,a2⟩,a3⟩,a5⟩,a6⟩,a7⟩,a8⟩:=h
 refine ⟨a1,a2,fun y hy hk=>(a3 y hy).elim (fun z=>absurd hk z) id,fun y hy hk=>(a5 y hy).elim (fun z=>absurd hk z) id,fun n _ hn=>?_,a7,fun j hj=>?_⟩
 ·have:∃ k,(n,k)∈FH X.env.scope scope /\ (k=NameKind.cell \/ k=NameKind.free):=by
   rcases hn with z | z
   ·exact ⟨_,lookup_mem z,.inl rfl⟩
   ·exact ⟨_,lookup_mem z,.inr rfl⟩
  obtain ⟨k,hk,F0⟩:=this
  rcases a6 (n,k) hk with z | ⟨z,hz,e1,e2⟩
  ·exfalso
   simp at z
   rcases F0 with q | q
   ·exact z.1 q
   ·exact z.2 q
  ·obtain ⟨z1,z2⟩:=z
   cases e1; cases e2; exact hz
 ·obtain ⟨⟨b1,⟨z,hz,e1,e2⟩⟩,b3⟩:=a8 j hj
  refine ⟨b1,?_,b3⟩
  obtain ⟨z1,z2⟩:=z
  cases e2
  have Lq:z1=X.N.getD j "":=e1
  rw [<- Lq]; exact hz
end
end L2
namespace L2
open PySem PySem.Spec PyProof.Rows LS
def nj (f:D->Option (Option D)):List D->Option (List D)
 | []=>some []
 | d :: ds=>(f d).bind fun o=>(nj f ds).bind fun xs=>some (match o with | some x=>x :: xs | none=>xs)
def ba (gi:DS->Option (List D)) (k:Nat) (ix:List Nat) (gt:D->DS->Option DS) (gc:DS->Option Bool) (ge:DS->Option D):DS->Option (List D):=fun δ=>(gi δ).bind fun ds=>if ds.length<=100000 then
 nj (fun d=>(gt d (List.replicate k none ++ gy ix δ)).bind fun gL=>(gc gL).bind fun b=>if b=true then (ge gL).map some else some none) ds else none
def JW (k:Nat) (gt:D->DS->Option DS):Prop:=∀ d c gL,gt d (List.replicate k none ++ c)=some gL->∃ own:DS,own.length=k /\ gL=own ++ c
theorem iL:JW 1 (aD 0):=fun d c gL h=>by cases h; exact ⟨[some d],rfl,rfl⟩
set_option tactic.hygienic true in
theorem JX:JW 2 (iu 2 (bY (aD 0) (bY (aD 1) iQ))):=fun d c gL h=>by
 unfold iu at h
 split at h
 ·split at h
  ·rename_i ds hl
   match ds,hl with
   | [a,b],_=>cases h; exact ⟨[some a,some b],rfl,rfl⟩
  ·cases h
 ·cases h
section
variable {K:PySem.W.Frag} {O:List Nat} {U A0:List Addr} {σ:St} {δ:DS} {H H1:Hp}
theorem Rel.weak {own c:DS} (R:Rel K [] U A0 σ (own ++ c) H):Rel K [] U A0 σ (List.replicate own.length none ++ c) H where
 len:=by rw [R.len]; simp
 fz:=fun i e hi q=>by
  by_cases h:i < own.length
  ·rw [List.getElem?_append_left (by simpa using h),List.getElem?_replicate,if_pos h] at q
   cases q
  ·refine R.fz i e hi ?_
   rw [List.getElem?_append_right (by simpa using h)] at q
   rw [List.getElem?_append_right (by omega)]
   simpa using q
 ow:=fun i e hi=>by simp at hi
 inj:=fun i j d e l hi=>by simp at hi
 al:=R.al
theorem Rel.MR (R:Rel K O U A0 σ δ H) {ix:List Nat} (k:Nat) (C5:∀ j∈ix,j∉O):Rel K [] U A0 (List.replicate k none ++ L2.ql ix σ) (List.replicate k none ++ gy ix δ) H where
 len:=by simp [L2.ql,gy]
 fz:=fun i e _ q=>by
  by_cases h:i < k
  ·rw [List.getElem?_append_left (by simpa using h),List.getElem?_replicate,if_pos h] at q
   cases q
  ·rw [List.getElem?_append_right (by simpa using h)] at q ⊢
   simp only [List.length_replicate] at q ⊢
   unfold gy at q
   unfold L2.ql
   rw [List.getElem?_map] at q ⊢
   cases ei:ix[i - k]? with
   | none=>rw [ei] at q; cases q
   | some j=>
     rw [ei] at q
     simp only [Option.map_some,Option.some.injEq] at q
     obtain ⟨u,hu,hd⟩:=R.fz j e (C5 j (List.mem_of_getElem? ei)) (join_some q)
     exact ⟨u,by simp [hu],hd⟩
 ow:=fun i e hi=>by simp at hi
 inj:=fun i j d e l hi=>by simp at hi
 al:=R.al
structure CB (K:PySem.W.Frag) (U A0:List Addr) (H1:Hp) (ds xs:List D) (F:D->Option (Option D)) (base:DS) (i:Nat) (ys:List V) (τ:St) (H2:Hp) (zs rest:List D):Prop where
 le:i<=ds.length
 s:aA H1 H2
 R:Rel K [] U A0 τ base H2
 yl:ys.length<=i
 hz:cj K (wo H2 (U ++ A0)) ys zs
 he:nj F (ds.drop i)=some rest
 hx:zs ++ rest=xs
def WC (K:PySem.W.Frag) (U A0:List Addr) (H1:Hp) (ds xs:List D) (F:D->Option (Option D)) (base:DS) (i m:Nat) (ys:List V) (τ:St) (H2:Hp):Prop:=m=ds.length - i /\ ∃ zs rest,CB K U A0 H1 ds xs F base i ys τ H2 zs rest
theorem AG {J:It} {ix:List Nat} {k:Nat} {gt:D->DS->Option DS} {gc:DS->Option Bool} {ge:DS->Option D} {ds xs:List D} {Q:VK} (own:JW k gt) (R:Rel K O U A0 σ δ H) (s:aA H H1) (C5:∀ j∈ix,j∉O) (hw:WalksS K (U ++ A0) H1 J ds)
  (hl:ds.length<=100000) (e:nj (fun d=>(gt d (List.replicate k none ++ gy ix δ)).bind fun gL=>(gc gL).bind fun b=>if b=true then (ge gL).map some else some none) ds=some xs)
  (q:∀ r ys H',aA H H'->H r=none->H' r=some (.lst ys)->cj K (wo H' (r :: (U ++ A0))) ys xs->Q (.ref r) H'):sG J k ix (tG K [] gt) (tT K [] gc) (tE K [] ge) σ H1 Q:=by
 have O5:(100000:Nat) < sizeLine:=by decide
 obtain ⟨F,hF⟩:∃ F:D->Option (Option D),F=fun d=>(gt d (List.replicate k none ++ gy ix δ)).bind fun gL=>(gc gL).bind fun b=>if b=true then (ge gL).map some else some none:=⟨_,rfl⟩
 rw [<- hF] at e
 refine ⟨WC K U A0 H1 ds xs F (List.replicate k none ++ gy ix δ),⟨ds.length,rfl,[],xs,Nat.zero_le _,aA.refl _,(R.same s).MR k C5,Nat.le_refl _,.nil,e,rfl⟩,?_⟩
 rintro i m ys τ H2 ⟨rfl,zs,rest,w⟩
 have hle:=w.le
 have Ll:=w.yl
 have he:=w.he
 refine ⟨by omega,?_⟩
 obtain ⟨Pg,CH⟩:=hw i H2 w.s
 by_cases j4:i < ds.length
 ·obtain ⟨go,U4⟩:=Pg _ (List.getElem?_eq_getElem j4)
  rw [List.drop_eq_getElem_cons j4,nj] at he
  generalize ds[i]=d at U4 he
  obtain ⟨o,e1,e2⟩:=bind1 he
  obtain ⟨rs,e3,e4⟩:=bind1 e2
  rw [hF] at e1
  obtain ⟨gL,f1,f2⟩:=bind1 e1
  obtain ⟨b,f3,f4⟩:=bind1 f2
  obtain ⟨iL,ol,oe⟩:=own d _ gL f1
  refine .inr ⟨go,by omega,fun v H3 y=>?_⟩
  obtain ⟨s3,hv⟩:=U4 v H3 y
  refine ⟨U,A0,_,d,gL,w.R.same s3,hv,f1,fun AE R3=>⟨U,A0,gL,b,R3,f3,fun H4 s4=>?_⟩⟩
  have wk:∀ {H':Hp},aA H3 H'->Rel K [] U A0 AE (List.replicate k none ++ gy ix δ) H':=fun {H'} s'=>by
   rw [<- ol]
   rw [oe] at R3
   exact (R3.same s').weak
  have lt:ds.length - (i + 1) < ds.length - i:=Nat.sub_lt_sub_left j4 (Nat.lt_succ_self i)
  cases b with
  | true=>
    rw [if_pos rfl] at f4
    dsimp only
    rw [if_pos rfl]
    cases eg:ge gL with
    | none=>rw [eg] at f4; cases f4
    | some x=>
      rw [eg] at f4; cases f4
      cases e4
      exact ⟨U,A0,gL,x,R3.same s4,eg,fun u H5 s5 hu=>⟨_,lt,rfl,zs ++ [x],rs,j4,((w.s.trans s3).trans s4).trans s5,wk (s4.trans s5),by rw [List.length_append]; exact Nat.succ_le_succ Ll,(w.hz.same (cC ((s3.trans s4).trans s5))).app (.cons hu .nil),e3,by rw [<- w.hx,List.append_assoc]; rfl⟩⟩
  | false=>
    rw [if_neg Bool.false_ne_true] at f4
    dsimp only
    rw [if_neg Bool.false_ne_true]
    cases f4
    cases e4
    exact ⟨_,lt,rfl,zs,rs,j4,(w.s.trans s3).trans s4,wk s4,Nat.le_succ_of_le Ll,w.hz.same (cC (s3.trans s4)),e3,w.hx⟩
 ·have hi:i=ds.length:=Nat.le_antisymm hle (Nat.le_of_not_lt j4)
  subst hi
  rw [List.drop_length,nj] at he
  cases he
  have hx:=w.hx
  rw [List.append_nil] at hx
  subst hx
  exact .inl ⟨CH rfl,fun p hp=>ri (s.trans w.s) q p ys hp w.hz⟩
end
section
variable {X:Cx} {O:List Nat} {fr:Fr} {scope:Scope} {elt iter tg:Expr} {ifs:List Expr} {pos:Pos} {gi:DS->Option (List D)} {ge:DS->Option D} {gt:D->DS->Option DS} {gc:DS->Option Bool} {k:Nat}
theorem PF.mono {t t':TT} (h:PF X ifs t) (m:∀ σ H Q,t' σ H Q->t σ H Q):PF X ifs t':=fun pins s σ H Q I q=>h pins s σ H Q I (m σ H Q q)
theorem dU:PF X [] (tT X.K O fun _=>some true):=JU.mono fun σ H Q hh=>hh.e fun U A0 δ b R e q=>by cases e; exact q H (aA.refl H)
set_option tactic.hygienic true in
theorem pf {K:PySem.W.Frag} {ix:List Nat} (own:JW k gt) (C5:∀ j∈ix,j∉O) {σ:St} {H:Hp} {Q:VK}:tN K O (ba gi k ix gt gc ge) σ H Q->xy (HV K O gi) k ix (tG K [] gt) (tT K [] gc) (tE K [] ge) σ H Q:=fun ⟨U,A0,δ,xs,R,ed,q⟩=>by
 obtain ⟨ds,e1,e2⟩:=bind1 ed
 split at e2
 ·rename_i hl
  exact ⟨U,A0,δ,ds,R,e1,fun J H1 s hw=>AG own R s C5 hw hl e2 q⟩
 ·cases e2
theorem bJ (sc:Scope) (N:List Str) (ix:List Nat) (N' xs:List Str) (own:JW k gt) (hi:PI X tg iter (HV X.K O gi)) (hg:∀ cl C s2 H2 fp pins,PG (bp X scope N' cl C s2 H2 fp pins) tg (tG X.K [] gt)) (hf:∀ cl C s2 H2 fp pins,PF (bp X scope N' cl C s2 H2 fp pins) ifs (tT X.K [] gc))
  (pe:∀ cl C s2 H2 fp pins,PE (bp X scope N' cl C s2 H2 fp pins) elt (tE X.K [] ge)) (C5:∀ j∈ix,j∉O:=by decide) (hk:km sc scope N xs ix N'=true:=by decide +kernel) (hl:xs.length=k:=by rfl)
  (e1:X.env.scope=sc:=by rfl) (e2:X.N=N:=by rfl) (hc:X.calm=true:=by rfl) (hs:∀ x,foldedSetIterable iter X.env x=pure x:=by intro _; rfl):PE X (.ListComp elt [⟨tg,iter,ifs,0⟩] scope pos) (tN X.K O (ba gi k ix gt gc ge)):=by
 subst hl
 exact (rC (gd:=uD) (lx hk e1 e2) (fun _ _ _ _ _ _=>hc) hi hg hf pe hs).mono fun _ _ _=>pf own C5
theorem me {i:Nat} {y:Str} {py C4:Pos} (sc:Scope) (N:List Str) (ix:List Nat) (N' xs:List Str) (P6:X.N.Nodup) (Lo:X.N[i]?=some y) (hy:X.env.scope.names.lookup y=some .local) (own:JW k gt) (hi:PI X tg iter (HV X.K O gi))
  (hg:∀ cl C s2 H2 fp pins,PG (bp X scope N' cl C s2 H2 fp pins) tg (tG X.K [] gt)) (hf:∀ cl C s2 H2 fp pins,PF (bp X scope N' cl C s2 H2 fp pins) ifs (tT X.K [] gc)) (pe:∀ cl C s2 H2 fp pins,PE (bp X scope N' cl C s2 H2 fp pins) elt (tE X.K [] ge))
  (C5:∀ j∈ix,j∉O:=by decide) (hk:km sc scope N xs ix N'=true:=by decide +kernel) (hl:xs.length=k:=by rfl)
  (e1:X.env.scope=sc:=by rfl) (e2:X.N=N:=by rfl) (hc:X.calm=true:=by rfl) (hs:∀ x,foldedSetIterable iter X.env x=pure x:=by intro _; rfl) (P7:swapsWith (.ListComp elt [⟨tg,iter,ifs,0⟩] scope pos) (some (.Name y py)) C4.line X.env=pure true:=by rfl):
  PS X (.Assign [.Name y py] (.ListComp elt [⟨tg,iter,ifs,0⟩] scope pos) C4) (uC (tN X.K O (ba gi k ix gt gc ge)) (kW i)):=by
 subst hl
 exact (AF (gd:=uD) (lx hk e1 e2) (fun _ _ _ _ _ _=>hc) hi hg hf pe hs P6 Lo hy P7).mono fun _ _ _ h=>pf own C5 h
end
theorem ph:∀ {bs:List Bool} {its:List Value},a4 (bs.map V.bl) its->its=bs.map Value.bool
 | [],_,.nil=>rfl
 | b :: l,_,.cons r t=>by
   rw [List.map_cons,<- ph t]
   cases (show _=Value.bool b from r)
   rfl
theorem all_range {bs:List Bool}:(List.range bs.length).all (fun i=>bs.getD i true)=bs.all id:=by
 rw [Bool.eq_iff_iff,List.all_eq_true,List.all_eq_true]
 constructor
 ·intro h b hb
  obtain ⟨i,hi,e⟩:=List.getElem_of_mem hb
  have:=h i (List.mem_range.mpr hi)
  rw [List.getD_eq_getElem?_getD,List.getElem?_eq_getElem hi] at this
  rw [<- e]; exact this
 ·intro h i hi
  have hi:=List.mem_range.mp hi
  rw [List.getD_eq_getElem?_getD,List.getElem?_eq_getElem hi]
  exact h _ (List.getElem_mem hi)
theorem nk {X:Cx} (hc:X.calm=true):ee X (.builtin "all") (fun xs H Q=>∃ (p:Addr) (bs:List Bool),xs=[.ref p] /\ gN X.K H p (bs.map V.bl) /\ Q (.bl (bs.all id)) H):=by
 intro pins s σ H xs us Q I r h
 obtain ⟨p,bs,rfl,hq,q⟩:=h
 obtain ⟨u,rfl,rx⟩:=vals1 r
 cases rx
 obtain ⟨its,rv,pl,_⟩:=I.list hq
 have e:=ph rv
 subst e
 have j4:p≠s.heap.objs.size:=by
  obtain ⟨o,n,e1,_⟩:=pl
  exact Nat.ne_of_lt (Heap.lt_size e1)
 refine call_all_walk (wpAny_pyIter_list pl.isList ?_)
 refine ⟨s.heap.objs.size,[s.heap.objs.size,p],[s.heap.objs.size],_,_,_,fun i=>bs.getD i true,rfl,Walks.list (A:=X.A.in1) (I.ok.hd hc) _ p j4 (bs.map Value.bool).toArray,⟨⟨_,Heap.get?_push_size _ rfl,rfl,rfl⟩,pl.isList.push _⟩,fun i v s' Q' E' hP hQ=>?_,fun h' tk k=>?_⟩
 ·have MS:(bs.map Value.bool)[i]?=some v:=by simpa using hP
  rw [List.getElem?_map] at MS
  cases eb:bs[i]? with
  | none=>rw [eb] at MS; cases MS
  | some b=>
    rw [eb] at MS; cases MS
    have U5:Q' (bs.getD i true) s':=hQ
    rw [List.getD_eq_getElem?_getD,eb] at U5
    exact wpAny_truthy_bool U5
 ·have e:(List.range (bs.map Value.bool).toArray.size).all (fun i=>bs.getD i true)=bs.all id:=by rw [<- all_range]; simp
  rw [e]
  refine ⟨.bl _,H,I.kept (t':=tk) fun b o e=>k b o (fun z=>?_) (Heap.get?_push_of_some _ e),rfl,q⟩
  rw [List.mem_singleton] at z
  exact absurd (Heap.lt_size e) (by rw [z]; exact Nat.lt_irrefl _)
theorem xC:bootBuiltins "all"=some (.builtin "all"):=by decide +kernel
def jK:List D->Option (List Bool)
 | []=>some []
 | .bool i :: l=>(jK l).map (i :: ·)
 | _ :: _=>none
theorem pj:∀ (ns:List Bool),jK (ns.map .bool)=some ns
 | []=>rfl
 | n :: ns=>by rw [List.map_cons,jK,pj ns]; rfl
theorem nP:∀ {l:List D} {ns:List Bool},jK l=some ns->l=ns.map .bool
 | [],_,h=>by cases h; rfl
 | d :: l,ns,h=>by
   cases d with
   | bool i=>
     rw [jK] at h
     cases e:jK l with
     | none=>rw [e] at h; cases h
     | some m=>rw [e] at h; cases h; rw [nP e]; rfl
   | _=>cases h
theorem cj.toBools {K:PySem.W.Frag} {H:Hp}:∀ {ns:List Bool} {xs:List V},cj K H xs (ns.map PyData.bool)->xs=ns.map V.bl
 | [],_,h=>by cases h; rfl
 | n :: ns,_,h=>by
   rw [List.map_cons] at h
   cases h with
   | cons a t=>cases a; rw [cj.toBools t]; rfl
def AH:List D->Option D
 | [.list l]=>(jK l).map fun bs=>.bool (bs.all id)
 | _=>none
set_option tactic.hygienic true in
theorem sI {K:PySem.W.Frag}:se K (fun xs H Q=>∃ (p:Addr) (bs:List Bool),xs=[.ref p] /\ gN K H p (bs.map V.bl) /\ Q (.bl (bs.all id)) H) AH:=by
 intro A H vs ds d Q al h e q
 unfold AH at e
 split at e
 ·rename_i l
  cases eb:jK l with
  | none=>rw [eb] at e; cases e
  | some bs=>
    rw [eb] at e; cases e
    obtain ⟨v,rfl,h1⟩:=CC h
    obtain ⟨p,xs,rfl,h2,h3⟩:=h1.list
    rw [nP eb] at h3
    rw [h3.toBools] at h2
    exact ⟨p,bs,rfl,h2.sq,q _ H (aA.refl H) (.bl _)⟩
 ·cases e
section
variable {X:Cx}
def xD (K:PySem.W.Frag):R2:=fun x y H Q=>∃ a b ys,x=.ref a /\ y=.ref b /\ jB K H a [] /\ jB K H b ys /\ Q (.ref b) H
theorem C6:gT X (binaryOp .Add) (xD X.K):=by
 intro pins s σ H x y v u Q I rx ry h
 obtain ⟨a,b,ys,rfl,rfl,ha,hb,q⟩:=h
 cases rx
 cases ry
 obtain ⟨its,r1,p1,_⟩:=I.tuple ha
 obtain ⟨qj,r2,p2,_⟩:=I.tuple hb
 have e:=r1.oo.mpr rfl
 subst e
 obtain ⟨⟨c1,d1,Z7,P8⟩,ho,hc,n,hd⟩:=id p1
 obtain ⟨⟨c2,d2,Z8,Fl⟩,j7,Hx,n2,hd2⟩:=id p2
 simp only at hc hd Hx hd2
 subst hc hd Hx hd2
 exact concat_meets ⟨_,ho,rfl⟩ ⟨_,j7,rfl⟩ noFill_tuple_add seq_tuple_add PySem.F.slot_tuple_add PySem.F.entry_tuple_add (PySem.F.args_tuple_add_2 _ _) (tuple_addW0 a b #[] qj.toArray n n2 d1 d2 P8 Fl (by simp)) ⟨ho,j7,⟨.ref b,H,I,rfl,q⟩⟩
end
def bo (a b:D):Option D:=match a,b with
 | .tuple [],.tuple l=>some (.tuple l)
 | a,b=>JE a b
theorem bh {X:Cx}:gT X (binaryOp .Add) (fun x y H Q=>zg X.K x y H Q \/ xD X.K x y H Q):=FL.or C6
theorem aU {K:PySem.W.Frag}:i4 K (fun x y H Q=>zg K x y H Q \/ xD K x y H Q) bo:=by
 intro A H x y dx dy d Q al hx hy e q
 unfold bo at e
 split at e
 ·cases e
  have hf:=hy.fz
  obtain ⟨a,xs,rfl,h1,h2⟩:=hx.tuple
  obtain ⟨b,zs,rfl,h3,h4⟩:=hy.tuple
  cases h2
  exact .inr ⟨a,b,zs,rfl,rfl,h1,h3,q _ H (aA.refl H) hf⟩
 ·exact .inl (FN A H x y _ _ d Q al hx hy e q)
def MT (K:PySem.W.Frag) (a:Addr):It:=
 ⟨fun i H=>∃ xs x,jB K H a xs /\ xs[i]?=some x,fun i H x H'=>∃ p v,H p=none /\ x=.ref p /\ H'=upd H p (.tup [.int i,v]) /\ ∀ xs,jB K H a xs->xs[i]?=some v,fun i H=>∃ xs,jB K H a xs /\ xs.length=i⟩
theorem xE {P:Program} {w:World} {K:PySem.W.Frag} {es:List Expr} {kk} {ik:Pos} (a e it:Addr) (el:e≠it):Turn P w K (.Tuple es kk ik) (MT K a) [e,it] e (fun i h=>(∃ old,IsEnum h e it i old) /\ h.IsTupleIter it a i) where
 mem:=by simp
 obj:=fun i h st b hb=>by
  obtain ⟨⟨old,he⟩,o,ho,c,d⟩:=st
  rcases List.mem_cons.mp hb with z | z
  ·subst z; exact ⟨_,he,fun v z=>by cases z⟩
  ·have z:b=it:=by simpa using z
   subst z; exact ⟨o,ho,fun v z=>by rw [d] at z; cases z⟩
 keep:=fun i h h' st k=>by
  obtain ⟨⟨old,he⟩,gn⟩:=st
  exact ⟨⟨old,k e (by simp) _ he⟩,gn.at fun o eo=>k it (by simp) o eo⟩
 item:=by
  intro X hP hw hK hc i pins s σ H E I hf st hg
  subst hP hw hK
  obtain ⟨xs,x,hq,hx⟩:=hg
  obtain ⟨its,rv,p,hz⟩:=I.tuple hq
  obtain ⟨u,hu,ru⟩:=rv.get hx
  obtain ⟨⟨old,he⟩,gn⟩:=st
  have hp:s.heap.IsTuple a its.toArray:=p
  have P9:e≠a:=fun z=>by
   obtain ⟨o,ho,mG,_⟩:=hp
   rw [<- z] at ho
   have:=ho.symm.trans he
   cases this
   exact absurd (Value.type.inj mG) (by decide)
  have JY:a≠it:=fun z=>by
   obtain ⟨o,ho,mG,_⟩:=hp
   obtain ⟨o2,j7,pk,_⟩:=gn
   rw [z] at ho
   have:=ho.symm.trans j7
   cases this
   rw [mG] at pk
   exact absurd (Value.type.inj pk) (by decide)
  have C7:i < its.toArray.size:=by
   have:=(List.getElem?_eq_some_iff.mp hu).1
   simpa using this
  refine wpAny_pyNext_enum_itemD (iS (A:=X.A.in1) (I.ok.hd hc) it a JY its.toArray) he ⟨gn,hp⟩ C7 el (by simp [el,P9]) fun y h1 tk hy z0 C8 Li Bq FX=>?_
  have Qa:y=u:=by
   have h3:its.toArray[i]?=some u:=by simpa using hu
   have h4:its.toArray[i]?=some y:=hy
   rw [h3] at h4; cases h4; rfl
  subst Qa
  refine ⟨_,rfl,wpAny_letOwnedTupleGo_enum z0 fun h2 CF kb=>?_⟩
  replace kb:Heap.SameBut e h1 h2:=kb
  have HS:e < s.heap.objs.size:=Heap.lt_size he
  have I1:Inv X pins σ H { s with heap:=h2,toks:=tk + 1 }:=I.iR (t':=tk + 1) (ch:=[e,it]) (fun b o hb eo=>by
   simp only [List.mem_cons,List.not_mem_nil,or_false,not_or] at hb
   exact (kb.2 b hb.1).trans (FX b o hb.1 hb.2 eo)) hf
  have JL:IsTup h2 s.heap.objs.size [Value.int i tk,y].toArray:=⟨_,(kb.2 _ (Nat.ne_of_gt HS)).trans Li,rfl,_,rfl⟩
  have jn:H s.heap.objs.size=none:=I.be.fresh (Nat.le_refl _)
  have fo:=I.lU (H':=H) (Nat.le_refl _) jn
  have I2:Inv X pins σ (upd H s.heap.objs.size (.tup [.int i,x])) { s with heap:=h2,toks:=tk + 1 }:=I1.sr jn (Nat.le_trans I.sz (Nat.le_refl _)) fo.2.1 fo.2.2.2.2.1 fo.2.2.2.2.2 JL (.cons ⟨_,rfl⟩ (.cons ru .nil)) (by show 2<=sizeLine; decide)
  refine ⟨.ref s.heap.objs.size,_,I2,rfl,⟨_,x,jn,rfl,rfl,fun ys hy=>by rw [I.mP hy hq]; exact hx⟩,⟨⟨y,CF⟩,C8.1.extBut kb.extBut (Ne.symm el)⟩,fun b hb=>?_⟩
  have j4:b < s.heap.objs.size:=by
   rcases List.mem_cons.mp hb with z | z
   ·subst z; exact HS
   ·have z:b=it:=by simpa using z
    subst z
    obtain ⟨o,ho,_⟩:=gn
    exact Heap.lt_size ho
  rw [aB (Nat.ne_of_lt j4)]
  exact (hf b hb).1
 done:=by
  intro X hP hw hK hc i pins s σ H E I hf st hg
  subst hP hw hK
  obtain ⟨xs,hq,hx⟩:=hg
  obtain ⟨its,rv,p,hz⟩:=I.tuple hq
  obtain ⟨⟨old,he⟩,gn⟩:=st
  have hp:s.heap.IsTuple a its.toArray:=p
  have JY:a≠it:=fun z=>by
   obtain ⟨o,ho,mG,_⟩:=hp
   obtain ⟨o2,j7,pk,_⟩:=gn
   rw [z] at ho
   have:=ho.symm.trans j7
   cases this
   rw [mG] at pk
   exact absurd (Value.type.inj pk) (by decide)
  have hl:=rv.length
  have hsz:its.toArray.size=i:=by rw [List.size_toArray,<- hl]; exact hx
  refine wpAny_pyNext_enum_endD (iS (A:=X.A.in1) (I.ok.hd hc) it a JY its.toArray) he ⟨by rw [hsz]; exact gn,hp⟩ fun h1 eb=>⟨rfl,?_⟩
  exact I.iR (t':=s.toks) (ch:=[e,it]) (fun b o hb eo=>eb b o (fun z=>hb (by simp [z])) eo) hf
 self:=fun _ _ _ _ _ st h=>by
  obtain ⟨⟨old,he⟩,_⟩:=st
  exact wpAny_pyIter_enum he h
section
variable {X:Cx} {O:List Nat} {a:Expr} {ge:DS->Option D} {p pos:Pos} {es:List Expr} {kk} {ik:Pos}
def JZ (K:PySem.W.Frag) (ta:TA):TI:=fun σ H R=>ta σ H fun vs H1=>∃ a xs,vs=[.ref a] /\ jB K H1 a xs /\ R (MT K a) H1
theorem C9 {ta:TA} (hg:Gl X "enumerate") (hm:X.mg "enumerate"=none) (ha:PA X [a] ta) (hs:starEach [a] X.env=[(false,eval a X.env)]:=by rfl):PI X (.Tuple es kk ik) (.Call (.Name "enumerate" p) [a] [] pos) (JZ X.K ta):=by
 intro pins s σ H R I h
 refine Call_ (fK I hg hm jH (PyProof.Rows.callWith_type1 (cO (ha pos pins s σ H _ I h) fun us s1 ⟨vs,H1,I1,r1,q1⟩=>?_) hs rfl))
 obtain ⟨b,xs,e,hq,q⟩:=q1
 subst e
 obtain ⟨u,rfl,ru⟩:=vals1 r1
 cases ru
 obtain ⟨its,rv,pl,hz⟩:=I1.tuple hq
 refine xo (show s1.heap.IsTuple b its.toArray from pl) fun h' he hit hsz hk=>?_
 refine wpAny_pyIter_enum he ?_
 refine ⟨s1.heap.objs.size + 1,[s1.heap.objs.size + 1,s1.heap.objs.size],_,_,H1,rfl,I1.kept (t':=s1.toks) hk,xE b _ s1.heap.objs.size (Nat.succ_ne_self _),⟨⟨_,he⟩,hit⟩,fun b hb=>?_,q⟩
 have hle:s1.heap.objs.size<=b:=by
  simp only [List.mem_cons,List.not_mem_nil,or_false] at hb
  rcases hb with z | z
  ·rw [z]; exact Nat.le_succ _
  ·rw [z]; exact Nat.le_refl _
 exact I1.lU hle (I1.be.fresh hle)
def sJ (g:DS->Option D):DS->Option (List D):=fun δ=>(g δ).bind fun | .tuple l=>some (iy l) | _=>none
theorem pq (hm:X.mg "enumerate"=none) (ha:PE X a (tE X.K O ge)) (hg:Gl X "enumerate":=by rfl) (hs:starEach [a] X.env=[(false,eval a X.env)]:=by rfl) (CL:starEach ([]:List Expr) X.env=[]:=by rfl):PI X (.Tuple es kk ik) (.Call (.Name "enumerate" p) [a] [] pos) (tI X.K O (sJ ge)):=
 (C9 hg hm (bg ha cn (by rw [hs,CL])) hs).mono fun σ H Q hh=>hh.e fun U A0 δ ds R ed q=>by
  obtain ⟨x,e1,e2⟩:=bind1 ed
  cases x with
  | tuple l=>
    cases e2
    refine ⟨U,A0,δ,_,R,e1,fun v H' s h=>?_⟩
    cases h with
    | tup hq h=>
      refine ⟨_,_,rfl,.inl (bq.l7 hq),q _ H' s ?_⟩
      intro A' i H2 s2 al
      have h2:=h.same s2
      have hL:jB X.K H2 _ _:=.inl (bq.l7 (s2.l7 hq))
      refine ⟨fun d hd=>?_,fun hi=>⟨_,hL,by rw [hi,kO,h2.len]⟩⟩
      obtain ⟨y,hy,rfl⟩:=rn hd
      obtain ⟨v,hv,Mx⟩:=h2.get hy
      refine ⟨⟨_,v,hL,hv⟩,fun z H3 hz=>?_⟩
      obtain ⟨p,v',hp,rfl,rfl,HU⟩:=hz
      have:=HU _ hL
      rw [hv] at this
      cases this
      exact ⟨bG hp _,HD.r9 al hp (.cons (.int _) (.cons Mx .nil))⟩
  | _=>cases e2
end
end L2
namespace L2
open PySem PySem.Spec PyProof.Rows
def J0:D->Option Key
 | .int i=>some (.inl i)
 | .str x=>some (.inr x)
 | _=>none
def keysOf:List D->Option (List Key)
 | []=>some []
 | d :: ds=>(J0 d).bind fun k=>(keysOf ds).bind fun ks=>some (k :: ks)
def keyOf:D->Option (List Key)
 | .tuple ds=>keysOf ds
 | _=>none
theorem iA:∀ k:List Key,keysOf (k.map jC)=some k
 | []=>rfl
 | .inl i :: k=>by rw [List.map_cons,keysOf,iA k]; rfl
 | .inr i :: k=>by rw [List.map_cons,keysOf,iA k]; rfl
theorem rD {K:PySem.W.Frag} {H:Hp}:∀ {xs:List V} {ds:List D} {k:List Key},cj K H xs ds->keysOf ds=some k->xs=k.map kV
 | _,_,_,.nil,e=>by cases e; rfl
 | _,_,_,.cons h t,e=>by
   rw [keysOf] at e
   obtain ⟨a,e1,e2⟩:=bind1 e
   obtain ⟨b,e3,e4⟩:=bind1 e2
   cases e4
   rw [rD t e3,List.map_cons]
   cases h with
   | int i=>cases e1; rfl
   | str x=>cases e1; rfl
   | _=>cases e1
def bz (kds:List (D×D)) (k:List Key):Option D:=(kds.find? fun p=>decide (keyOf p.1=some k)).map (·.2)
def eZ (kds:List (D×D)) (k:List Key) (d:D):List (D×D):=
 if (kds.any fun p=>decide (keyOf p.1=some k))=true then kds.map (fun p=>if keyOf p.1=some k then (p.1,d) else p) else kds ++ [(.tuple (k.map jC),d)]
theorem dW {p:D×D} {r:List (D×D)} {k:List Key} (e:keyOf p.1=some k):bz (p :: r) k=some p.2:=by simp [bz,List.find?_cons,e]
theorem dX {p:D×D} {r:List (D×D)} {k:List Key} (e:¬ keyOf p.1=some k):bz (p :: r) k=bz r k:=by simp [bz,List.find?_cons,e]
theorem hZ (k:List Key):∀ kds:List (D×D),(kds.any fun p=>decide (keyOf p.1=some k))=(bz kds k).isSome
 | []=>rfl
 | p :: r=>by
   rw [List.any_cons]
   by_cases e:keyOf p.1=some k
   ·simp only [dW e,decide_eq_true e,Bool.true_or,Option.isSome_some]
   ·rw [dX e,decide_eq_false e,Bool.false_or]; exact hZ k r
theorem rE (k j:List Key) (y:D):∀ kds:List (D×D),bz (kds.map fun p=>if keyOf p.1=some k then (p.1,y) else p) j=(bz kds j).map fun x=>if j=k then y else x
 | []=>rfl
 | p :: r=>by
   have ih:=rE k j y r
   rw [List.map_cons]
   by_cases h:keyOf p.1=some k
   ·rw [if_pos h]
    by_cases e:keyOf p.1=some j
    ·rw [dW (p:=(p.1,y)) e,dW e,Option.map_some,if_pos (Option.some.inj (e.symm.trans h))]
    ·rw [dX (p:=(p.1,y)) e,dX e,ih]
   ·rw [if_neg h]
    by_cases e:keyOf p.1=some j
    ·rw [dW (p:=p) e,dW e,Option.map_some,if_neg (fun z=>h (by rw [e,z]))]
    ·rw [dX (p:=p) e,dX e,ih]
theorem rF (j:List Key):∀ a b:List (D×D),bz (a ++ b) j=(bz a j).or (bz b j)
 | [],b=>by rw [List.nil_append]; rfl
 | p :: r,b=>by
   rw [List.cons_append]
   by_cases e:keyOf p.1=some j
   ·rw [dW e,dW e]; rfl
   ·rw [dX e,dX e]; exact rF j r b
theorem rG (kds:List (D×D)) (k j:List Key) (d:D):bz (eZ kds k d) j=if j=k then some d else bz kds j:=by
 unfold eZ
 by_cases a:(kds.any fun p=>decide (keyOf p.1=some k))=true
 ·rw [if_pos a,rE]
  rw [hZ] at a
  by_cases e:j=k
  ·obtain ⟨x,hx⟩:=Option.isSome_iff_exists.mp a
   rw [if_pos e,e,hx,Option.map_some,if_pos rfl]
  ·rw [if_neg e]
   cases bz kds j with
   | none=>rfl
   | some x=>rw [Option.map_some,if_neg e]
 ·rw [if_neg a,rF]
  rw [hZ] at a
  have hk:keyOf (.tuple (k.map jC))=some k:=iA k
  by_cases e:j=k
  ·subst e
   have:bz kds j=none:=by
    cases q:bz kds j with
    | none=>rfl
    | some x=>rw [q] at a; exact (a rfl).elim
   rw [if_pos rfl,this,dW hk]; rfl
  ·rw [if_neg e,dX (by rw [hk]; exact fun z=>e (Option.some.inj z).symm)]
   exact Option.or_none
theorem jq (kds:List (D×D)) (k:List Key) (d:D):(eZ kds k d).length<=kds.length + 1:=by
 unfold eZ
 split
 ·rw [List.length_map]; omega
 ·rw [List.length_append,List.length_cons,List.length_nil]; omega
inductive DK (K:PySem.W.Frag) (H:Hp):List (List Key×V)->List (D×D)->Prop
 | nil:DK K H [] []
 | cons {k:List Key} {v:V} {d:D} {r:List (List Key×V)} {s:List (D×D)}:HD K H v d->DK K H r s->DK K H ((k,v) :: r) ((.tuple (k.map jC),d) :: s)
section
variable {K:PySem.W.Frag} {H H':Hp} {A:List Addr}
theorem DK.of:∀ {aF:List (List Key×V)} {kds:List (D×D)},kds.map (·.1)=aF.map (fun p=>PyData.tuple (p.1.map jC))->cj K H (aF.map (·.2)) (kds.map (·.2))->DK K H aF kds
 | [],[],_,_=>.nil
 | [],_ :: _,e,_=>by simp at e
 | _ :: _,[],e,_=>by simp at e
 | (k,v) :: r,(x,d) :: s,e,h=>by
   simp only [List.map_cons,List.cons.injEq] at e
   obtain ⟨e1,e2⟩:=e
   subst e1
   cases h with
   | cons h1 h2=>exact .cons h1 (DK.of e2 h2)
theorem DK.keys:∀ {aF:List (List Key×V)} {kds:List (D×D)},DK K H aF kds->kds.map (·.1)=aF.map (fun p=>PyData.tuple (p.1.map jC))
 | _,_,.nil=>rfl
 | _,_,.cons _ t=>by rw [List.map_cons,List.map_cons,DK.keys t]
theorem DK.vals:∀ {aF:List (List Key×V)} {kds:List (D×D)},DK K H aF kds->cj K H (aF.map (·.2)) (kds.map (·.2))
 | _,_,.nil=>.nil
 | _,_,.cons h t=>.cons h (DK.vals t)
theorem DK.own {aF:List (List Key×V)} {kds:List (D×D)} (h:DK K H aF kds):xi K H (.dT aF) (.dict kds):=.l8 h.keys h.vals
theorem DK.same {aF:List (List Key×V)} {kds:List (D×D)} (s:aA H H') (h:DK K H aF kds):DK K H' aF kds:=DK.of h.keys (h.vals.same s)
theorem DK.len:∀ {aF:List (List Key×V)} {kds:List (D×D)},DK K H aF kds->aF.length=kds.length
 | _,_,.nil=>rfl
 | _,_,.cons _ t=>by rw [List.length_cons,List.length_cons,DK.len t]
theorem DK.look (k:List Key):∀ {aF:List (List Key×V)} {kds:List (D×D)},DK K H aF kds->(∀ d,bz kds k=some d->∃ v,lg aF k=some v /\ HD K H v d) /\ (bz kds k=none->lg aF k=none)
 | _,_,.nil=>⟨fun d e=>(by cases e),fun _=>rfl⟩
 | _,_,.cons (k:=j) (v:=v) (d:=d) (r:=r) (s:=s) h t=>by
   have hj:keyOf (.tuple (j.map jC))=some j:=iA j
   by_cases e:j=k
   ·subst e
    rw [dW (p:=(PyData.tuple (j.map jC),d)) hj,lY (p:=(j,v)) rfl]
    exact ⟨fun d' q=>by cases q; exact ⟨v,rfl,h⟩,fun q=>by cases q⟩
   ·rw [dX (p:=(PyData.tuple (j.map jC),d)) (by rw [hj]; exact fun z=>e (Option.some.inj z)),lZ (p:=(j,v)) e]
    exact DK.look k t
theorem DK.rep (k:List Key) {v:V} {d:D} (hv:HD K H v d):∀ {aF:List (List Key×V)} {kds:List (D×D)},DK K H aF kds->DK K H (aF.map fun kv=>if kv.1=k then (kv.1,v) else kv) (kds.map fun p=>if keyOf p.1=some k then (p.1,d) else p)
 | _,_,.nil=>.nil
 | _,_,.cons (k:=j) h t=>by
   have hj:keyOf (.tuple (j.map jC))=some j:=iA j
   rw [List.map_cons,List.map_cons]
   by_cases e:j=k
   ·subst e
    rw [if_pos rfl,if_pos hj]; exact .cons hv (DK.rep j hv t)
   ·rw [if_neg e,if_neg (by rw [hj]; exact fun z=>e (Option.some.inj z))]; exact .cons h (DK.rep k hv t)
theorem DK.app:∀ {a:List (List Key×V)} {b:List (D×D)} {a':List (List Key×V)} {b':List (D×D)},DK K H a b->DK K H a' b'->DK K H (a ++ a') (b ++ b')
 | _,_,_,_,.nil,q=>q
 | _,_,_,_,.cons h t,q=>.cons h (DK.app t q)
theorem DK.put {aF:List (List Key×V)} {kds:List (D×D)} (h:DK K H aF kds) (k:List Key) {v:V} {d:D} (hv:HD K H v d):DK K H (putK aF k v) (eZ kds k d):=by
 have e:(aF.any fun kv=>decide (kv.1=k))=kds.any fun p=>decide (keyOf p.1=some k):=by
  rw [oK,hZ]
  cases q:bz kds k with
  | none=>rw [(h.look k).2 q]; rfl
  | some x=>obtain ⟨w,hw,_⟩:=(h.look k).1 x q; rw [hw]; rfl
 unfold putK eZ
 rw [e]
 split
 ·exact h.rep k hv
 ·exact h.app (.cons hv .nil)
theorem fY.dk {x:V} {kds:List (D×D)} (h:fY K A H x (.dict kds)) (hf:rg kds=false):∃ a aF,x=.ref a /\ H a=some (.dT aF) /\ DK K (wo H A) aF kds:=
 let ⟨a,aF,e,h1,h2,h3⟩:=h.dict hf; ⟨a,aF,e,h1,DK.of h2 h3⟩
theorem fY.key {y:V} {d:D} {k:List Key} (h:fY K A H y d) (e:keyOf d=some k):∃ b,y=.ref b /\ de H b (k.map kV):=by
 cases d with
 | tuple ds=>
   obtain ⟨b,ys,rfl,hb,hd⟩:=h.Mi
   exact ⟨b,rfl,by rw [<- rD hd e]; exact hb⟩
 | _=>cases e
end
def gR (gd gk:DS->Option D):DS->Option D:=fun δ=>(gd δ).bind fun x=>(gk δ).bind fun y=>match x with
 | .dict kds=>if rg kds=true then none else (keyOf y).bind fun k=>bz kds k
 | _=>none
def pw (gd gk ge:DS->Option D):DS->Option D:=fun δ=>(gd δ).bind fun x=>(gk δ).bind fun y=>(ge δ).bind fun z=>match x with
 | .dict kds=>if rg kds=true then none else (keyOf y).bind fun k=>some ((bz kds k).getD z)
 | _=>none
def Ge (b:Bool) (gk gd:DS->Option D):DS->Option D:=fun δ=>(gk δ).bind fun y=>(gd δ).bind fun x=>match x with
 | .dict kds=>if rg kds=true then none else (keyOf y).bind fun k=>some (.bool ((bz kds k).isSome == b))
 | _=>none
def nQ (i:Nat) (gk ge:DS->Option D):DS->Option Res:=fun δ=>(ge δ).bind fun d=>(ae i δ).bind fun x=>(gk δ).bind fun y=>match x with
 | .dict kds=>(keyOf y).bind fun k=>if kds.length < 100000 then some (.nx (δ.set i (some (.dict (eZ kds k d))))) else none
 | _=>none
def zq (i:Nat) (g:DS->Option (List (D×D))):DS->Option Res:=fun δ=>(g δ).bind fun d=>some (.nx (δ.set i (some (.dict d))))
def Dc:DS->Option (List (D×D)):=fun _=>some []
def Dd (gk ge:DS->Option D):DS->Option (List (D×D)):=fun δ=>(gk δ).bind fun y=>(ge δ).bind fun d=>(keyOf y).bind fun k=>some [(.tuple (k.map jC),d)]
def Qb (K:PySem.W.Frag) (O:List Nat) (g:DS->Option (List (D×D))):TE:=fun σ H Q=>∃ U A0 δ kds,Rel K O U A0 σ δ H /\ g δ=some kds /\
 ∀ r aF H',aA H H'->H r=none->H' r=some (.dT aF)->DK K (wo H' (r :: (U ++ A0))) aF kds->Q (.ref r) H'
section
variable {X:Cx} {O:List Nat} {fr:Fr} {st:Stmt} {gd gk ge:DS->Option D} {gl:DS->Option (List (D×D))} {o i e f value:Expr} {pos apos dO:Pos}
set_option tactic.hygienic true in
theorem iT (hu:X.A.units + 1 < cLine) (ho:PE X o (gU X.K O gd)) (hi:PE X i (gU X.K O gk)) (hs:Jo i:=by intro _ _; rfl):PE X (.Subscript o i pos) (tE X.K O (gR gd gk)):=(FD hu ho hi hs).mono fun σ H Q hh=>hh.e fun U A0 δ d R ed q=>by
 obtain ⟨x,e1,e2⟩:=bind1 ed
 obtain ⟨y,e3,e4⟩:=bind1 e2
 refine ⟨U,A0,δ,x,R,e1,fun v H1 s1 h1=>⟨U,A0,δ,y,R.same s1,e3,fun v2 H2 s2 h2=>?_⟩⟩
 cases x with
 | dict kds=>
   have e4:(if rg kds=true then none else (keyOf y).bind fun k=>bz kds k)=some d:=e4
   split at e4
   ·cases e4
   rename_i hf
   have hf:=Bool.eq_false_iff.mpr hf
   obtain ⟨k,e5,e6⟩:=bind1 e4
   obtain ⟨a,aF,rfl,ha,dk⟩:=(h1.same s2).dk hf
   obtain ⟨b,rfl,hb⟩:=h2.key e5
   obtain ⟨w,hw,hd⟩:=(dk.look k).1 d e6
   refine ⟨a,w,rfl,?_,q w H2 (s1.trans s2) hd⟩
   rw [<- hw]; exact l5.t ha hb
 | _=>cases e4
set_option tactic.hygienic true in
theorem De (hu:X.A.units + 1 < cLine) (ho:PE X o (gU X.K O gd)) (hi:PE X e (gU X.K O gk)) (hx:PE X f (tE X.K O ge)) (m:M2 X o "get" apos e f dO:=by exact ⟨rfl,rfl,rfl,rfl⟩):PE X (.Call (.Attribute o "get" apos) [e,f] [] dO) (tE X.K O (pw gd gk ge)):=(Ce hu ho hi hx m).mono fun σ H Q hh=>hh.e fun U A0 δ d R ed q=>by
 obtain ⟨x,e1,e2⟩:=bind1 ed
 obtain ⟨y,e3,e4⟩:=bind1 e2
 obtain ⟨z,e5,e6⟩:=bind1 e4
 refine ⟨U,A0,δ,x,R,e1,fun v H1 s1 h1=>?_⟩
 cases x with
 | dict kds=>
   have e6:(if rg kds=true then none else (keyOf y).bind fun k=>some ((bz kds k).getD z))=some d:=e6
   split at e6
   ·cases e6
   rename_i hf
   have hf:=Bool.eq_false_iff.mpr hf
   obtain ⟨k,e7,e8⟩:=bind1 e6
   cases e8
   obtain ⟨a,aF,rfl,ha,dk⟩:=h1.dk hf
   refine ⟨a,rfl,.inr ⟨_,.inl ha⟩,U,A0,δ,y,R.same s1,e3,fun v2 H2 s2 h2=>⟨U,A0,δ,z,(R.same s1).same s2,e5,fun v3 H3 s3 h3=>?_⟩⟩
   obtain ⟨b,rfl,hb⟩:=(h2.same s3).key e7
   have U6:=dk.same (cC (A:=U ++ A0) (s2.trans s3))
   refine ⟨lg aF k,l5.t ((s2.trans s3) _ _ ha) hb,q _ H3 (s1.trans (s2.trans s3)) ?_⟩
   cases w:bz kds k with
   | none=>rw [(U6.look k).2 w]; exact h3
   | some d'=>obtain ⟨w',WD,Bl⟩:=(U6.look k).1 d' w; rw [WD]; exact Bl
 | _=>cases e6
theorem DK.U7 {K:PySem.W.Frag} {H:Hp} {aF:List (List Key×V)} {kds:List (D×D)} (h:DK K H aF kds) (k:List Key):(lg aF k).isSome=(bz kds k).isSome:=by
 cases q:bz kds k with
 | none=>rw [(h.look k).2 q]; rfl
 | some x=>obtain ⟨w,hw,_⟩:=(h.look k).1 x q; rw [hw]; rfl
set_option tactic.hygienic true in
theorem oz {i:Nat} (h:PS X st (HE (uz i) (gU X.K O gk) (tE X.K O ge))) (hi:i∈O:=by decide):PS X st (tS X.K O fr (nQ i gk ge)):=h.mono fun E σ H hh=>hh.e fun H0 U A0 δ r R F ed P=>by
 obtain ⟨d,e1,e2⟩:=bind1 ed
 obtain ⟨x,e3,e4⟩:=bind1 e2
 obtain ⟨y,e5,e6⟩:=bind1 e4
 obtain ⟨l,o,hl,hU,h1,h2⟩:=R.ow i x hi (join_some e3)
 cases h2 with
 | lst _=>cases e6
 | l8 kk hv=>
   obtain ⟨k,e7,e8⟩:=bind1 e6
   split at e8
   ·rename_i hz
    cases e8
    refine ⟨U,A0,δ,d,R,e1,fun v H1 s1 WE=>⟨.ref l,hl,U,A0,δ,y,R.same s1,e5,fun v2 H2 s2 h3=>?_⟩⟩
    obtain ⟨b,rfl,hb⟩:=h3.key e7
    have dk:=DK.of kk hv
    have hlen:=dk.len
    have WG:=dk.same (cC (A:=U ++ A0) (s1.trans s2))
    refine ⟨l,_,rfl,Cb.t ((s1.trans s2) _ _ h1) hb (Ck (by omega)),?_⟩
    exact P U σ _ ((R.same (s1.trans s2)).Ml hi hl hU (WG.put k (WE.same (cC s2))).own ⟨_,join_some e3⟩) ((F.grow (s1.trans s2)).put hU _)
   ·cases e8
theorem sL {i:Nat} (h:PS X st (uC (Qb X.K O gl) (kW i))) (hi:i∈O:=by decide):PS X st (tS X.K O fr (zq i gl)):=h.mono fun E σ H hh=>hh.e fun H0 U A0 δ r R F ed P=>by
 obtain ⟨d,e1,e2⟩:=bind1 ed
 cases e2
 exact ⟨U,A0,δ,d,R,e1,fun r aF H' s hr h1 h2=>P (r :: U) _ H' (R.Mj s hr h1 h2.own hi) (F.more s hr)⟩
theorem zr:PE X (.Dict [] [] pos) (Qb X.K O Dc):=Cc.mono fun σ H Q ⟨U,A0,δ,d,R,ed,q⟩ p hp=>by
 cases ed
 exact q p [] _ (bG hp _) hp aZ .nil
theorem Rel.MU {K:PySem.W.Frag} {O:List Nat} {U A0:List Addr} {σ:St} {δ:DS} {H H':Hp} (R:Rel K O U A0 σ δ H) (s:aA H H') {r:Addr} {o:HO} (hr:H r=none) (h:H' r=some o) (ho:FJ o):Rel K O U (r :: A0) σ δ H':=by
 have k:aA (wo H (U ++ A0)) (wo H' (U ++ (r :: A0))):=fun b o q=>by
  obtain ⟨h1,h2⟩:=dQ q
  rw [aY]
  ·exact s b o h2
  ·simp only [List.mem_append,List.mem_cons,not_or] at h1 ⊢
   exact ⟨h1.1,aP h2 hr,h1.2⟩
 exact {
  len:=R.len
  fz:=fun i d hi e=>let ⟨v,a,b⟩:=R.fz i d hi e; ⟨v,a,b.same k⟩
  ow:=fun i d hi e=>let ⟨l,o,a,c,f,g⟩:=R.ow i d hi e; ⟨l,o,a,c,s _ _ f,g.same k⟩
  inj:=R.inj
  al:=⟨fun a ha=>by
   simp only [List.mem_append,List.mem_cons] at ha
   rcases ha with z | z | z
   ·exact (R.al.same s).1 a (by simp [z])
   ·subst z; exact ⟨_,h,ho⟩
   ·exact (R.al.same s).1 a (by simp [z]),(R.al.same s).2⟩ }
def J1 (tk tv:TE):TE:=fun σ H Q=>∀ p,H p=none->xg [(tk,tv)] σ (upd H p (.dT [])) fun ps H2=>H2 p=some (.dT []) /\ ∃ b ks y,ps=[(.ref b,y)] /\ de H2 b (ks.map kV) /\ Q (.ref p) (upd H2 p (.dT [(ks,y)]))
theorem Dg {k v:Expr} {tk tv:TE} (hu:X.A.units + 1 < cLine) (hk:PE X k tk) (hv:PE X v tv):PE X (.Dict [some k] [v] pos) (J1 tk tv):=by
 intro pins s σ H Q I q
 have hn:=I.be.fresh (Nat.le_refl s.heap.objs.size)
 have I1:=I.laid (a:=s.heap.objs.size) (o:=.dT []) (h':=s.heap.push { cls:=.type "dict",data:=.dict #[] }) (t':=s.toks) (fun _ _ q=>Heap.get?_push_of_some _ q) (Nat.le_refl _) (uN s.heap I.O5)
 have pp:NZ X pos [some k] [v] [(tk,tv)]:=Cd hk hv FE
 refine wpAny_Dict_any rfl rfl (by simp) (by simp) (cO (pp pins _ σ _ _ I1 (q _ hn)) fun ws s2 ⟨ps,H2,I2,rel,e,b,ks,y,e2,e4,q2⟩=>?_)
 subst e2
 cases rel with
 | @cons _ w _ _ h t=>
   cases t
   obtain ⟨u1,u2⟩:=w
   obtain ⟨r1,r2⟩:=h
   cases (show u1=Value.ref b from r1)
   have hf:storeAll s.heap.objs.size [(Value.ref b,u2)]=(do dictSet s.heap.objs.size (Value.ref b) u2):=by
    unfold storeAll
    rw [List.forIn_cons]
    simp
   rw [hf]
   obtain ⟨z,hd,xs,rl,dd⟩:=HC I2.be e
   cases rl
   refine wpAny_dictSet_heap (show X.A.units < cLine by omega) (lh I2.be e4) dd (fun h' Le hs=>⟨.ref s.heap.objs.size,_,?_,rfl,q2⟩) (Nat.zero_le _)
   obtain ⟨q,es,ep,hq,h2,h3,h4,_,h5⟩:=Le
   have Qc:KT H2 [] []:=.nil
   refine oq I2 (by rw [e]; exact True.intro) hs ⟨q,hq⟩ ⟨small (by simp),hd,_,(Qc.put ks e4 r2).keeps fun c ys ec=>?_,q,es,ep,hq,h2,h3,h4,h5⟩
   exact ec.dT e
theorem Dh {k v:Expr} (hu:X.A.units + 1 < cLine) (hk:PE X k (gU X.K O gk)) (hv:PE X v (tE X.K O ge)):PE X (.Dict [some k] [v] pos) (Qb X.K O (Dd gk ge)):=(Dg hu hk hv).mono fun σ H Q ⟨U,A0,δ,d,R,ed,q⟩ p hp=>by
 obtain ⟨y,e1,e2⟩:=bind1 ed
 obtain ⟨d',e3,e4⟩:=bind1 e2
 obtain ⟨ks,e5,e6⟩:=bind1 e4
 cases e6
 have s0:=bG hp (.dT [])
 have R0:Rel X.K O U (p :: A0) σ δ (upd H p (.dT [])):=R.MU s0 hp aZ trivial
 refine ⟨U,p :: A0,δ,y,R0,e1,fun v H1 s1 h1=>⟨U,p :: A0,δ,d',R0.same s1,e3,fun w H2 s2 h2=>?_⟩⟩
 obtain ⟨b,rfl,hb⟩:=(h1.same s2).key e5
 have MO:H2 p=some (.dT []):=(s1.trans s2) _ _ aZ
 refine ⟨MO,b,ks,w,rfl,hb,q p _ _ (s0.trans (s1.trans s2) |>.upd hp _) hp aZ ?_⟩
 have ew:wo (upd H2 p (.dT [(ks,w)])) (p :: (U ++ A0))=wo H2 (p :: (U ++ A0)):=Ct (by simp)
 rw [ew]
 exact .cons (h2.same (kg fun a ha=>by simp only [List.mem_append,List.mem_cons] at ha ⊢; rcases ha with z | z | z; exact .inr (.inl z); exact .inl z; exact .inr (.inr z))) .nil
end
end L2
namespace LS
open PySem PySem.Spec PyProof.Rows
section
variable {prog:Program} {w:World} {A:Around} {E:Value->Shared->Prop} {s:Shared}
theorem Qd {T nw:String} {Bn:Builtin} {us:List Value} {kw:List (Str×Value)} {S:PySem.Spec} {Q:Value->Shared->Prop} (ft:TypeCalled T nw "object.__init__") (c1:checkTypeCall T ⟨us,kw⟩=pure ()) (c2:checkBuiltinCall nw ⟨.type T :: us,kw⟩=pure ())
  (en:entryFor table nw=some Bn) (g:Meets (Bn ⟨.type T :: us,kw⟩) S) (c3:∀ o,argsOk "object.__init__" ⟨o :: us,kw⟩) (gi:∀ o,Meets (Builtin.«object.__init__» ⟨o :: us,kw⟩) (fun _ R s=>s.TypeIs o T /\ R (.ok (.ret .none)) s))
  (h:S A.in1 (wants (fun o s1=>s1.TypeIs o T /\ Q o s1) E) s):wpAny (model prog w) A (call (.type T) us kw) Q E s:=by
 obtain ⟨hc,tl,hm⟩:=ft.mro
 have k1:=ft.made
 have k2:=ft.sub
 have k3:=ft.notType
 have k4:=ft.canCreate
 refine wpAny_call (codeAny_of_tree (show wpAny _ _ (callAny (.type T) _) _ _ _ from wpAny_pure ⟨Code.quiet_builtin _ (by decide +kernel),codeAny_builtin F.entry_type_call ?_⟩))
 rw [Around.under_plain (weight_type_call_type T us kw) (units_type_call_type T us kw)]
 repeat any_goals first | assumption | wp_step
 refine codeAny_mono (codeAny_call_builtin ft.plain en (wpAny_of_eq c2 (g prog w A.in1 _ s h))) fun r s1 hr=>?_
 cases r with
 | error e=>exact hr
 | ok fl=>
   cases fl with
   | ret o=>
     obtain ⟨hT,hq⟩:=hr
     have k5:=ft.init.lookup
     have k6:=ft.init.bind o
     repeat any_goals first | assumption | wp_step
     refine codeAny_mono (codeAny_call_builtin ft.init.plain F.entry_object_init (ft.init.check _ _ _ _ _ _ _ _ hT (c3 o) (gi o prog w A.in1 (wants (fun r s2=>r=.none /\ Q o s2) E) s1 ⟨hT,rfl,hq⟩))) fun r2 s2 Qe=>?_
     cases r2 with
     | error e=>exact Qe
     | ok f2=>
       cases f2 with
       | ret r=>
         obtain ⟨rfl,q2⟩:=Qe
         repeat any_goals first | assumption | wp_step
       | _=>exact Qe.elim
   | _=>exact hr.elim
end
theorem initK {T nw:String} {o:Value} {us:List Value} {kw:List (Str×Value)} (hl:typeLookup (.type T) "__init__"=pure (some (.builtin "object.__init__"))) (hm:Bind.madeBy (.type T)=pure (some nw)) (el:(some nw != some "object.__new__")=true) (u:Value):
  Meets (Builtin.«object.__init__» ⟨o :: u :: us,kw⟩) (fun _ R s=>s.TypeIs o T /\ R (.ok (.ret .none)) s):=by
 refine Meets.of_wp fun prog w A R s hs=>?_
 obtain ⟨hT,hq⟩:=hs
 repeat any_goals first | assumption | wp_step
 exact ⟨_,rfl,hq⟩
theorem WH (a b:Value):checkTypeCall "enumerate" ⟨[a],[("start",b)]⟩=pure ():=by kernel_rfl
theorem WI (a b:Value):checkBuiltinCall "enumerate.__new__" ⟨[.type "enumerate",a],[("start",b)]⟩=pure ():=by kernel_rfl
theorem WJ (o a b:Value):argsOk "object.__init__" ⟨[o,a],[("start",b)]⟩:=by kernel_rfl
set_option maxHeartbeats 1000000 in
set_option tactic.hygienic true in
theorem Qf (l:Addr) (items:Array Value) (n:Nat) (l8:Option Addr) (sl:Array (Option Value)) (t:Tok):
  Meets (Builtin.«enumerate.__new__» ⟨[.type "enumerate",.ref l],[("start",.int 1 t)]⟩) (fun _ R s=>s.heap.get? l=some { cls:=.type "tuple",dict:=l8,data:=.seq items n,slots:=sl } /\
   R (.ok (.ret (.ref (s.heap.push { cls:=.type "tuple_iterator",data:=.fields #[.ref l,.int 0 0] }).objs.size)))
     { s with heap:=(s.heap.push { cls:=.type "tuple_iterator",data:=.fields #[.ref l,.int 0 0] }).push { cls:=.type "enumerate",data:=.fields #[.none,.bool false,.ref s.heap.objs.size,rawInt 1,.none,.none] } }):=
 .of_wp fun prog w A R s h=>by
  obtain ⟨hp,g,d,tk,os⟩:=s; obtain ⟨hl,h⟩:=h
  have uV:=sub_enumerate
  have hL:Heap.IsTuple (Shared.heap ⟨hp,g,d,tk,os⟩) l items:=⟨_,hl,rfl,n,rfl⟩
  wp_walk using AutoSeq1.wpAny_loadPart' hl
  refine wpAny_stack_any fun st=>wpAny_pure ?_
  split
  ·rename_i c _ _ _ _ _
   cases (c == Value.type "enumerate")
   ·wp_walk using AutoSeq1.wpAny_loadPart' hl,wpAny_pyIter_tuple hL
    exact ⟨_,rfl,h⟩
   ·wp_walk using AutoSeq1.wpAny_loadPart' hl,wpAny_pyIter_tuple hL
    exact ⟨_,rfl,h⟩
  ·wp_walk using AutoSeq1.wpAny_loadPart' hl,wpAny_pyIter_tuple hL
   exact ⟨_,rfl,h⟩
section
variable {prog:Program} {w:World} {A:Around} {E:Value->Shared->Prop} {s:Shared}
theorem xF {l:Addr} {items:Array Value} {t:Tok} {Q:Value->Shared->Prop} (hL:s.heap.IsTuple l items)
  (h:∀ h',IsEnum h' (s.heap.objs.size + 1) s.heap.objs.size 1 .none->h'.IsTupleIter s.heap.objs.size l 0->h'.objs.size=s.heap.objs.size + 2->(∀ b o,s.heap.get? b=some o->h'.get? b=some o)->Q (.ref (s.heap.objs.size + 1)) { s with heap:=h' }):
  wpAny (model prog w) A (call (.type "enumerate") [.ref l] [("start",.int 1 t)]) Q E s:=by
 obtain ⟨⟨c,l8,dt,sl⟩,hl,hc,n,hd⟩:=hL
 simp only at hc hd
 subst hc hd
 refine Qd PySem.F.called_enumerate (WH _ _) (WI _ _) PySem.F.entry_enumerate_new (Qf l items n l8 sl t) (fun o=>WJ o _ _) (fun o=>initK PySem.F.called_enumerate.init.lookup PySem.F.called_enumerate.made (by decide) _) ⟨hl,?_⟩
 have hz:(s.heap.push { cls:=.type "tuple_iterator",data:=.fields #[.ref l,.int 0 0] }).objs.size=s.heap.objs.size + 1:=Heap.size_push ..
 show _ /\ _
 rw [hz]
 have he:IsEnum ((s.heap.push { cls:=.type "tuple_iterator",data:=.fields #[.ref l,.int 0 0] }).push { cls:=.type "enumerate",data:=.fields #[.none,.bool false,.ref s.heap.objs.size,rawInt 1,.none,.none] }) (s.heap.objs.size + 1) s.heap.objs.size 1 .none:=by
  have q:=Heap.get?_push_size (s.heap.push { cls:=.type "tuple_iterator",data:=.fields #[.ref l,.int 0 0] }) (o:={ cls:=.type "enumerate",data:=.fields #[.none,.bool false,.ref s.heap.objs.size,rawInt 1,.none,.none] }) rfl
  rw [hz] at q; exact q
 exact ⟨⟨_,he,rfl⟩,h _ he ⟨_,Heap.get?_push_of_some _ (Heap.get?_push_size _ rfl),rfl,rfl⟩ (by rw [Heap.size_push,hz]) fun b o x=>Heap.get?_push_of_some _ (Heap.get?_push_of_some _ x)⟩
theorem u4 {it:Addr} {fp:List Addr} {n:Nat} {P:Nat->Value->Prop} {St:Nat->Heap->Prop} (d:Draws prog w A it fp n P St):Draws prog w A it fp (n + 1) (fun i v=>∃ j,i=j + 1 /\ P j v) (fun i h=>∃ j,i=j + 1 /\ St j h) where
 live:=fun _ h ⟨j,_,q⟩=>d.live j h q
 frame:=fun _ h h' ⟨j,e,q⟩ k=>⟨j,e,d.frame j h h' q k⟩
 item:=fun i s Q E hi ⟨j,e,q⟩ hQ=>d.item j s Q E (by omega) q fun x h' tk p st sb=>hQ x h' tk ⟨j,e,p⟩ ⟨j + 1,by omega,st⟩ sb
 done:=fun s Q E ⟨j,e,q⟩ hE=>d.done s Q E ((show j=n by omega) ▸ q) hE
theorem pz {M:Model} {env:Env} {pos:Pos} {T:String} {e:Expr} {es:List Expr} {Jb:List Keyword} {Q:Value->Shared->Prop}
  (h:wpAny M A (spliced (backTo pos (starEach (e :: es) env))) (fun vs s1=>wpAny M A (evalAll ((backToKw pos (keywordEach Jb env)).map (·.2))) (fun ks s2=>wpAny M A (call (.type T) vs (((backToKw pos (keywordEach Jb env)).filterMap (·.1)).zip ks)) Q E s2) E s1) E s)
  (he:backTo pos (starEach (e :: es) env)=(false,eval e env) :: backTo pos (starEach es env)) (hp:(backTo pos (starEach (e :: es) env)).any (·.1)=false) (ha:(backToKw pos (keywordEach Jb env)).all (·.1.isSome)=true) (hk:(backToKw pos (keywordEach Jb env)).any (·.1.isNone)=false):
  wpAny M A (callWith pos (.type T) [] (backTo pos (starEach (e :: es) env)) (backToKw pos (keywordEach Jb env))) Q E s:=by
 have h1:wpAny M A (evalArgs (.type T) true (backTo pos (starEach (e :: es) env)) (backToKw pos (keywordEach Jb env))) (fun a s1=>wpAny M A (call (.type T) a.pos a.kw) Q E s1) E s:=by
  rw [he] at h ⊢
  exact evalArgs_kwB ha h
 unfold callWith
 refine wpAny_bind (wpAny_holding (wpAny_mono h1 (fun a s1 q=>wpAny_bind (wpAny_standAt ?_)) fun _ _ x=>x))
 simp only [hp,hk,Bool.or_false]
 exact wpAny_bind (wpAny_pure (wpAny_bind (wpAny_mono q (fun r s2 hr=>wpAny_bind (wpAny_holding (wpAny_point (wpAny_pure hr)))) fun _ _ x=>x)))
end
end LS
namespace L2
open PySem PySem.Spec PyProof.Rows LS
def MV (K:PySem.W.Frag) (a:Addr):It:=
 ⟨fun i H=>∃ xs x,jB K H a xs /\ xs[i]?=some x,fun i H x H'=>∃ p v,H p=none /\ x=.ref p /\ H'=upd H p (.tup [.int ((i:Int) + 1),v]) /\ ∀ xs,jB K H a xs->xs[i]?=some v,fun i H=>∃ xs,jB K H a xs /\ xs.length=i⟩
theorem xG {P:Program} {w:World} {K:PySem.W.Frag} {es:List Expr} {kk} {ik:Pos} (a e it:Addr) (el:e≠it):Turn P w K (.Tuple es kk ik) (MV K a) [e,it] e (fun i h=>(∃ old,IsEnum h e it ((i:Int) + 1) old) /\ h.IsTupleIter it a i) where
 mem:=by simp
 obj:=fun i h st b hb=>by
  obtain ⟨⟨old,he⟩,o,ho,c,d⟩:=st
  rcases List.mem_cons.mp hb with z | z
  ·subst z; exact ⟨_,he,fun v z=>by cases z⟩
  ·have z:b=it:=by simpa using z
   subst z; exact ⟨o,ho,fun v z=>by rw [d] at z; cases z⟩
 keep:=fun i h h' st k=>by
  obtain ⟨⟨old,he⟩,gn⟩:=st
  exact ⟨⟨old,k e (by simp) _ he⟩,gn.at fun o eo=>k it (by simp) o eo⟩
 item:=by
  intro X hP hw hK hc i pins s σ H E I hf st hg
  subst hP hw hK
  obtain ⟨xs,x,hq,hx⟩:=hg
  obtain ⟨its,rv,p,hz⟩:=I.tuple hq
  obtain ⟨u,hu,ru⟩:=rv.get hx
  obtain ⟨⟨old,he⟩,gn⟩:=st
  have hp:s.heap.IsTuple a its.toArray:=p
  have P9:e≠a:=fun z=>by
   obtain ⟨o,ho,mG,_⟩:=hp
   rw [<- z] at ho
   have:=ho.symm.trans he
   cases this
   exact absurd (Value.type.inj mG) (by decide)
  have JY:a≠it:=fun z=>by
   obtain ⟨o,ho,mG,_⟩:=hp
   obtain ⟨o2,j7,pk,_⟩:=gn
   rw [z] at ho
   have:=ho.symm.trans j7
   cases this
   rw [mG] at pk
   exact absurd (Value.type.inj pk) (by decide)
  have C7:i < its.toArray.size:=by
   have:=(List.getElem?_eq_some_iff.mp hu).1
   simpa using this
  refine wpAny_pyNext_enum_itemD (i:=i + 1) (LS.u4 (iS (A:=X.A.in1) (I.ok.hd hc) it a JY its.toArray)) (by push_cast; exact he) ⟨i,rfl,gn,hp⟩ (Nat.succ_lt_succ C7) el (by simp [el,P9]) fun y h1 tk hy z0 C8 Li Bq FX=>?_
  obtain ⟨j,ej,hy⟩:=hy
  obtain ⟨j',WK,C8⟩:=C8
  cases ej
  cases WK
  push_cast at z0 Li
  have Qa:y=u:=by
   have h3:its.toArray[i]?=some u:=by simpa using hu
   have h4:its.toArray[i]?=some y:=hy
   rw [h3] at h4; cases h4; rfl
  subst Qa
  refine ⟨_,rfl,wpAny_letOwnedTupleGo_enum z0 fun h2 CF kb=>?_⟩
  replace kb:Heap.SameBut e h1 h2:=kb
  have HS:e < s.heap.objs.size:=Heap.lt_size he
  have I1:Inv X pins σ H { s with heap:=h2,toks:=tk + 1 }:=I.iR (t':=tk + 1) (ch:=[e,it]) (fun b o hb eo=>by
   simp only [List.mem_cons,List.not_mem_nil,or_false,not_or] at hb
   exact (kb.2 b hb.1).trans (FX b o hb.1 hb.2 eo)) hf
  have JL:IsTup h2 s.heap.objs.size [Value.int ((i:Int) + 1) tk,y].toArray:=⟨_,(kb.2 _ (Nat.ne_of_gt HS)).trans Li,rfl,_,rfl⟩
  have jn:H s.heap.objs.size=none:=I.be.fresh (Nat.le_refl _)
  have fo:=I.lU (H':=H) (Nat.le_refl _) jn
  have I2:Inv X pins σ (upd H s.heap.objs.size (.tup [.int ((i:Int) + 1),x])) { s with heap:=h2,toks:=tk + 1 }:=I1.sr jn (Nat.le_trans I.sz (Nat.le_refl _)) fo.2.1 fo.2.2.2.2.1 fo.2.2.2.2.2 JL (.cons ⟨_,rfl⟩ (.cons ru .nil)) (by show 2<=sizeLine; decide)
  refine ⟨.ref s.heap.objs.size,_,I2,rfl,⟨_,x,jn,rfl,rfl,fun ys hy=>by rw [I.mP hy hq]; exact hx⟩,⟨⟨y,by push_cast; exact CF⟩,C8.1.extBut kb.extBut (Ne.symm el)⟩,fun b hb=>?_⟩
  have j4:b < s.heap.objs.size:=by
   rcases List.mem_cons.mp hb with z | z
   ·subst z; exact HS
   ·have z:b=it:=by simpa using z
    subst z
    obtain ⟨o,ho,_⟩:=gn
    exact Heap.lt_size ho
  rw [aB (Nat.ne_of_lt j4)]
  exact (hf b hb).1
 done:=by
  intro X hP hw hK hc i pins s σ H E I hf st hg
  subst hP hw hK
  obtain ⟨xs,hq,hx⟩:=hg
  obtain ⟨its,rv,p,hz⟩:=I.tuple hq
  obtain ⟨⟨old,he⟩,gn⟩:=st
  have hp:s.heap.IsTuple a its.toArray:=p
  have JY:a≠it:=fun z=>by
   obtain ⟨o,ho,mG,_⟩:=hp
   obtain ⟨o2,j7,pk,_⟩:=gn
   rw [z] at ho
   have:=ho.symm.trans j7
   cases this
   rw [mG] at pk
   exact absurd (Value.type.inj pk) (by decide)
  have hl:=rv.length
  have hsz:its.toArray.size=i:=by rw [List.size_toArray,<- hl]; exact hx
  refine wpAny_pyNext_enum_endD (LS.u4 (iS (A:=X.A.in1) (I.ok.hd hc) it a JY its.toArray)) he ⟨_,rfl,by rw [hsz]; exact gn,hp⟩ fun h1 eb=>⟨rfl,?_⟩
  exact I.iR (t':=s.toks) (ch:=[e,it]) (fun b o hb eo=>eb b o (fun z=>hb (by simp [z])) eo) hf
 self:=fun _ _ _ _ _ st h=>by
  obtain ⟨⟨old,he⟩,_⟩:=st
  exact wpAny_pyIter_enum he h
section
variable {X:Cx} {O:List Nat} {a:Expr} {ge:DS->Option D} {p pos:Pos} {es:List Expr} {kk} {ik:Pos}
def J3 (K:PySem.W.Frag) (ta:TA):TI:=fun σ H R=>ta σ H fun vs H1=>∃ a xs,vs=[.ref a] /\ jB K H1 a xs /\ R (MV K a) H1
theorem Di {ta:TA} {jj} {cp kp:Pos} (hg:Gl X "enumerate") (hm:X.mg "enumerate"=none) (ha:PA X [a] ta) (hs:starEach [a] X.env=[(false,eval a X.env)]:=by rfl):PI X (.Tuple es kk ik) (.Call (.Name "enumerate" p) [a] [⟨some "start",.Constant (.int 1) jj cp,kp⟩] pos) (J3 X.K ta):=by
 intro pins s σ H R I h
 refine wpAny_Call_Name_kw (fK I hg hm jH (LS.pz (cO (ha pos pins s σ H _ I h) fun us s1 ⟨vs,H1,I1,r1,q1⟩=>?_) (by rw [hs]; rfl) (by rw [hs]; rfl) rfl rfl))
 obtain ⟨b,xs,e,hq,q⟩:=q1
 subst e
 obtain ⟨u,rfl,ru⟩:=vals1 r1
 cases ru
 refine PyProof.Rows.evalAll_cons (wpAny_bind (cO (aj pins s1 σ H1 (fun v H2=>v=V.int 1 /\ H2=H1) I1 ⟨rfl,rfl⟩) fun kv s2 ⟨v,H2,I2,Lr,e1,e2⟩=>wpAny_bind (wpAny_standAt (wpAny_pure (PyProof.Rows.evalAll_nil ?_)))))
 subst e1 e2
 obtain ⟨t,rfl⟩:=Lr
 obtain ⟨its,rv,pl,hz⟩:=I2.tuple hq
 refine LS.xF (show s2.heap.IsTuple b its.toArray from pl) fun h' he hit hsz hk=>?_
 refine wpAny_pyIter_enum he ?_
 refine ⟨s2.heap.objs.size + 1,[s2.heap.objs.size + 1,s2.heap.objs.size],_,_,H2,rfl,I2.kept (t':=s2.toks) hk,xG b _ s2.heap.objs.size (Nat.succ_ne_self _),⟨⟨_,he⟩,hit⟩,fun b hb=>?_,q⟩
 have hle:s2.heap.objs.size<=b:=by
  simp only [List.mem_cons,List.not_mem_nil,or_false] at hb
  rcases hb with z | z
  ·rw [z]; exact Nat.le_succ _
  ·rw [z]; exact Nat.le_refl _
 exact I2.lU hle (I2.be.fresh hle)
def nR (l:List D):List D:=(l.zipIdx 1).map fun p=>.tuple [.int (p.2:Nat),p.1]
theorem AI (l:List D):(nR l).length=l.length:=by unfold nR; simp
theorem AJ {l:List D} {i:Nat} {d:D} (h:(nR l)[i]?=some d):∃ x,l[i]?=some x /\ d=.tuple [.int ((i:Int) + 1),x]:=by
 unfold nR at h
 rw [List.getElem?_map,List.getElem?_zipIdx] at h
 cases e:l[i]? with
 | none=>rw [e] at h; cases h
 | some x=>
   rw [e] at h
   simp only [Option.map_some,Option.some.injEq] at h
   refine ⟨x,rfl,?_⟩
   rw [<- h]
   push_cast
   rw [Int.add_comm]
def Dj (g:DS->Option D):DS->Option (List D):=fun δ=>(g δ).bind fun | .tuple l=>some (nR l) | _=>none
theorem Dk {jj} {cp kp:Pos} (hm:X.mg "enumerate"=none) (ha:PE X a (tE X.K O ge)) (hg:Gl X "enumerate":=by rfl) (hs:starEach [a] X.env=[(false,eval a X.env)]:=by rfl) (CL:starEach ([]:List Expr) X.env=[]:=by rfl):PI X (.Tuple es kk ik) (.Call (.Name "enumerate" p) [a] [⟨some "start",.Constant (.int 1) jj cp,kp⟩] pos) (tI X.K O (Dj ge)):=
 (Di hg hm (bg ha cn (by rw [hs,CL])) hs).mono fun σ H Q hh=>hh.e fun U A0 δ ds R ed q=>by
  obtain ⟨x,e1,e2⟩:=bind1 ed
  cases x with
  | tuple l=>
    cases e2
    refine ⟨U,A0,δ,_,R,e1,fun v H' s h=>?_⟩
    cases h with
    | tup hq h=>
      refine ⟨_,_,rfl,.inl (bq.l7 hq),q _ H' s ?_⟩
      intro A' i H2 s2 al
      have h2:=h.same s2
      have hL:jB X.K H2 _ _:=.inl (bq.l7 (s2.l7 hq))
      refine ⟨fun d hd=>?_,fun hi=>⟨_,hL,by rw [hi,AI,h2.len]⟩⟩
      obtain ⟨y,hy,rfl⟩:=AJ hd
      obtain ⟨v,hv,Mx⟩:=h2.get hy
      refine ⟨⟨_,v,hL,hv⟩,fun z H3 hz=>?_⟩
      obtain ⟨p,v',hp,rfl,rfl,HU⟩:=hz
      have:=HU _ hL
      rw [hv] at this
      cases this
      exact ⟨bG hp _,HD.r9 al hp (.cons (.int _) (.cons Mx .nil))⟩
  | _=>cases e2
end
def U8 (K:PySem.W.Frag) (a b:Addr):It:=
 ⟨fun i H=>∃ xs ys x y,gN K H a xs /\ gN K H b ys /\ xs[i]?=some x /\ ys[i]?=some y,fun i H v H'=>∃ p x y,H p=none /\ v=.ref p /\ H'=upd H p (.tup [x,y]) /\ (∀ xs,gN K H a xs->xs[i]?=some x) /\ ∀ ys,gN K H b ys->ys[i]?=some y,fun i H=>∃ xs ys,gN K H a xs /\ gN K H b ys /\ min xs.length ys.length=i⟩
theorem Dl {P:Program} {w:World} {K:PySem.W.Frag} {es:List Expr} {kk} {ik:Pos} (l1 l2 z TI TO i1 i2:Addr) (D:ZipApart z TI TO i1 i2 l1 l2):Turn P w K (.Tuple es kk ik) (U8 K l1 l2) [z,TI,TO,i1,i2] z (fun i h=>IsZip h z TI TO .none /\ IsPair h TI (.ref i1) (.ref i2) /\ (∃ a b,IsPair h TO a b) /\ h.IsListIter i1 l1 i /\ h.IsListIter i2 l2 i) where
 mem:=by simp
 obj:=fun i h st b hb=>by
  obtain ⟨h1,h2,⟨a,c,h3⟩,⟨o4,h4,_,d4⟩,o5,h5,_,d5⟩:=st
  simp only [List.mem_cons,List.not_mem_nil,or_false] at hb
  rcases hb with rfl | rfl | rfl | rfl | rfl
  ·exact ⟨_,h1,fun v z=>by cases z⟩
  ·exact ⟨_,h2,fun v z=>by cases z⟩
  ·exact ⟨_,h3,fun v z=>by cases z⟩
  ·exact ⟨o4,h4,fun v z=>by rw [d4] at z; cases z⟩
  ·exact ⟨o5,h5,fun v z=>by rw [d5] at z; cases z⟩
 keep:=fun i h h' st k=>by
  obtain ⟨h1,h2,⟨a,c,h3⟩,h4,h5⟩:=st
  exact ⟨k z (by simp) _ h1,k TI (by simp) _ h2,⟨a,c,k TO (by simp) _ h3⟩,h4.at fun o e=>k i1 (by simp) o e,h5.at fun o e=>k i2 (by simp) o e⟩
 item:=by
  intro X hP hw hK hc i pins s σ H E I hf st hg
  subst hP hw hK
  obtain ⟨xs,ys,x,y,Gf,Ap,hx,hy⟩:=hg
  obtain ⟨t1,N9,p1,Bq⟩:=I.list Gf
  obtain ⟨t2,Lr,p2,Oa⟩:=I.list Ap
  obtain ⟨u1,U9,WL⟩:=N9.get hx
  obtain ⟨u2,Va,WM⟩:=Lr.get hy
  obtain ⟨s1,s2,s3,s4,s5⟩:=st
  have W:=WalksT.zip2 (prog:=X.prog) (w:=X.w) (A:=X.A) (I.ok.hd hc) z TI TO i1 i2 l1 l2 D t1.toArray t2.toArray
  have hi:i < min t1.toArray.size t2.toArray.size:=by
   have a:=(List.getElem?_eq_some_iff.mp U9).1
   have b:=(List.getElem?_eq_some_iff.mp Va).1
   simp only [List.size_toArray]; omega
  refine W.item i s _ E hi ⟨s1,s2,s3,s4,s5,p1.isList,p2.isList⟩ fun T vals h1 tk hv hT ht hm hk=>⟨_,rfl,W.go _ _ _ i T _ _ _ hm fun h2 gn F0=>?_⟩
  obtain ⟨x',y',e1,e2,rfl⟩:=hv
  have Lq:x'=u1:=by
   have:t1.toArray[i]?=some u1:=by simpa using U9
   rw [this] at e1; cases e1; rfl
  have MK:y'=u2:=by
   have:t2.toArray[i]?=some u2:=by simpa using Va
   rw [this] at e2; cases e2; rfl
  subst Lq MK
  have WN:=W.apart i T h1 hm
  have I1:Inv X pins σ H { s with heap:=h2,toks:=tk }:=I.iR (t':=tk) (ch:=[z,TI,TO,i1,i2]) (fun b o hb eo=>by
   have ET:b∉[z,TO,i1,i2]:=fun q=>hb (by simp only [List.mem_cons,List.not_mem_nil,or_false] at q ⊢; rcases q with q | q | q | q <;> simp [q])
   exact F0 b o ET (hk b o ET eo)) hf
  have JL:IsTup h2 T [x',y'].toArray:=by
   obtain ⟨o,ho,c,n,d⟩:=ht
   exact ⟨o,F0 T o WN ho,c,n,d⟩
  have jn:H T=none:=I.be.fresh hT
  have fo:=I.lU (H':=H) hT jn
  have I2:Inv X pins σ (upd H T (.tup [x,y])) { s with heap:=h2,toks:=tk }:=I1.sr jn (Nat.le_trans I.sz hT) fo.2.1 fo.2.2.2.2.1 fo.2.2.2.2.2 JL (.cons WL (.cons WM .nil)) (by show 2<=sizeLine; decide)
  obtain ⟨r1,r2,r3,r4,r5,_,_⟩:=gn
  refine ⟨.ref T,_,I2,rfl,⟨T,x,y,jn,rfl,rfl,fun zs hz=>by rw [I.lT hz Gf]; exact hx,fun zs hz=>by rw [I.lT hz Ap]; exact hy⟩,⟨r1,r2,r3,r4,r5⟩,fun b hb=>?_⟩
  have j4:b < s.heap.objs.size:=by
   obtain ⟨a,c,s3⟩:=s3
   obtain ⟨o4,s4,_⟩:=s4
   obtain ⟨o5,s5,_⟩:=s5
   simp only [List.mem_cons,List.not_mem_nil,or_false] at hb
   rcases hb with q | q | q | q | q
   ·rw [q]; exact Heap.lt_size s1
   ·rw [q]; exact Heap.lt_size s2
   ·rw [q]; exact Heap.lt_size s3
   ·rw [q]; exact Heap.lt_size s4
   ·rw [q]; exact Heap.lt_size s5
  rw [aB (Nat.ne_of_lt (Nat.lt_of_lt_of_le j4 hT))]
  exact (hf b hb).1
 done:=by
  intro X hP hw hK hc i pins s σ H E I hf st hg
  subst hP hw hK
  obtain ⟨xs,ys,Gf,Ap,hx⟩:=hg
  obtain ⟨t1,N9,p1,Bq⟩:=I.list Gf
  obtain ⟨t2,Lr,p2,Oa⟩:=I.list Ap
  obtain ⟨s1,s2,s3,s4,s5⟩:=st
  have W:=WalksT.zip2 (prog:=X.prog) (w:=X.w) (A:=X.A) (I.ok.hd hc) z TI TO i1 i2 l1 l2 D t1.toArray t2.toArray
  have a1:=N9.length
  have a2:=Lr.length
  have hi:min t1.toArray.size t2.toArray.size=i:=by simp only [List.size_toArray]; omega
  refine W.done s _ E (by rw [hi]; exact ⟨s1,s2,s3,s4,s5,p1.isList,p2.isList⟩) fun h1 tk hk=>⟨rfl,?_⟩
  exact I.iR (t':=tk) (ch:=[z,TI,TO,i1,i2]) (fun b o hb eo=>hk b o (fun q=>hb (by simp only [List.mem_cons,List.not_mem_nil,or_false] at q ⊢; rcases q with q | q | q | q <;> simp [q])) eo) hf
 self:=fun _ _ _ _ _ st h=>wpAny_pyIter_zip st.1 h
theorem J4:bootBuiltins "zip"=some (.type "zip"):=by decide +kernel
section
variable {X:Cx} {O:List Nat} {a b:Expr} {ga gb:DS->Option D} {p pos:Pos} {es:List Expr} {kk} {ik:Pos}
def Qg (K:PySem.W.Frag) (ta:TA):TI:=fun σ H R=>ta σ H fun vs H1=>∃ a b xs ys,vs=[.ref a,.ref b] /\ gN K H1 a xs /\ gN K H1 b ys /\ R (U8 K a b) H1
theorem J5 {ta:TA} (hg:Gl X "zip") (hm:X.mg "zip"=none) (ha:PA X [a,b] ta) (hs:starEach [a,b] X.env=(false,eval a X.env) :: starEach [b] X.env:=by rfl) (kb:(backTo pos (starEach [b] X.env)).any (·.1)=false:=by rfl):PI X (.Tuple es kk ik) (.Call (.Name "zip" p) [a,b] [] pos) (Qg X.K ta):=by
 intro pins s σ H R I h
 refine wpAny_Call_Name_kw (fK I hg hm J4 (PyProof.Rows.callWith_type1 (cO (ha pos pins s σ H _ I h) fun us s1 ⟨vs,H1,I1,r1,q1⟩=>?_) hs kb))
 obtain ⟨l1,l2,xs,ys,e,Gf,Ap,q⟩:=q1
 subst e
 cases r1 with
 | cons r1 t1=>
   cases t1 with
   | cons r2 t2=>
     cases t2
     cases r1
     cases r2
     obtain ⟨t1,N9,p1,Bq⟩:=I1.list Gf
     obtain ⟨t2,Lr,p2,Oa⟩:=I1.list Ap
     have WO:l1 < s1.heap.objs.size:=by obtain ⟨o,ho,_⟩:=p1.isList; exact Heap.lt_size ho
     have WQ:l2 < s1.heap.objs.size:=by obtain ⟨o,ho,_⟩:=p2.isList; exact Heap.lt_size ho
     refine call_zip_2 p1.isList p2.isList fun h' hz WR WS WT Qh hsz hk=>wpAny_pyIter_zip hz ?_
     refine ⟨s1.heap.objs.size + 4,[s1.heap.objs.size + 4,s1.heap.objs.size + 2,s1.heap.objs.size + 3,s1.heap.objs.size,s1.heap.objs.size + 1],_,_,H1,rfl,I1.kept (t':=s1.toks) hk,Dl l1 l2 _ _ _ _ _ (zipApart_new WO WQ),⟨hz,WR,⟨_,_,WS⟩,WT,Qh⟩,fun b hb=>?_,q⟩
     have hle:s1.heap.objs.size<=b:=by
      simp only [List.mem_cons,List.not_mem_nil,or_false] at hb
      rcases hb with z | z | z | z | z
      ·rw [z]; exact Nat.le_add_right _ _
      ·rw [z]; exact Nat.le_add_right _ _
      ·rw [z]; exact Nat.le_add_right _ _
      ·rw [z]; exact Nat.le_refl _
      ·rw [z]; exact Nat.le_add_right _ _
     exact I1.lU hle (I1.be.fresh hle)
def AK (x y:List D):List D:=List.zipWith (fun a b=>.tuple [a,b]) x y
def Gg (ga gb:DS->Option D):DS->Option (List D):=fun δ=>(ga δ).bind fun x=>(gb δ).bind fun y=>match x,y with
 | .list x,.list y=>some (AK x y)
 | _,_=>none
theorem J6 (hm:X.mg "zip"=none) (ha:PE X a (tE X.K O ga)) (hb:PE X b (tE X.K O gb)) (hg:Gl X "zip":=by rfl) (hs:starEach [a,b] X.env=(false,eval a X.env) :: starEach [b] X.env:=by rfl) (wM:starEach [b] X.env=(false,eval b X.env) :: starEach [] X.env:=by rfl) (kb:(backTo pos (starEach [b] X.env)).any (·.1)=false:=by rfl):PI X (.Tuple es kk ik) (.Call (.Name "zip" p) [a,b] [] pos) (tI X.K O (Gg ga gb)):=
 (J5 hg hm (bg ha (bg hb cn wM) hs) hs kb).mono fun σ H Q hh=>hh.e fun U A0 δ ds R ed q=>by
  obtain ⟨x,e1,e2⟩:=bind1 ed
  obtain ⟨y,e3,e4⟩:=bind1 e2
  refine ⟨U,A0,δ,x,R,e1,fun v H1 s1 h1=>⟨U,A0,δ,y,R.same s1,e3,fun v2 H2 s2 h2=>?_⟩⟩
  cases x with
  | list x=>
    cases y with
    | list y=>
      cases e4
      have Mr:=h1.same (cC (A:=U ++ A0) s2)
      cases Mr with
      | lst Gf d1=>
        cases h2 with
        | lst Ap d2=>
          refine ⟨_,_,_,_,rfl,(Gf.same bq).sq,(Ap.same bq).sq,q _ H2 (s1.trans s2) ?_⟩
          intro A' i H3 s3 al
          have k1:=d1.same s3
          have k2:=d2.same s3
          have l1:gN X.K H3 _ _:=((Gf.same s3).same bq).sq
          have l2:gN X.K H3 _ _:=((Ap.same s3).same bq).sq
          refine ⟨fun d hd=>?_,fun hi=>⟨_,_,l1,l2,by rw [hi,AK,List.length_zipWith,k1.len,k2.len]⟩⟩
          rw [AK,List.getElem?_zipWith] at hd
          cases ex:x[i]? with
          | none=>rw [ex] at hd; cases hd
          | some dx=>
            cases ey:y[i]? with
            | none=>rw [ex,ey] at hd; cases hd
            | some dy=>
              rw [ex,ey] at hd
              cases hd
              obtain ⟨vx,Vb,WU⟩:=k1.get ex
              obtain ⟨vy,Vc,WV⟩:=k2.get ey
              refine ⟨⟨_,_,vx,vy,l1,l2,Vb,Vc⟩,fun z H4 hz=>?_⟩
              obtain ⟨p,x',y',hp,rfl,rfl,f1,f2⟩:=hz
              have g1:=f1 _ l1
              have g2:=f2 _ l2
              rw [Vb] at g1; rw [Vc] at g2
              cases g1; cases g2
              exact ⟨bG hp _,HD.r9 al hp (.cons WU (.cons WV .nil))⟩
    | _=>cases e4
  | _=>cases e4
end
end L2
namespace L2
open PySem PySem.Spec PyProof.Rows
section
variable {X:Cx} {O:List Nat} {e:Expr}
end
def mf (neg:Bool):D->D->Option D:=fun x y=>match y with
 | .list l=>if (SeqAt.shaped x && l.all SeqAt.shaped)=true then some (.bool ((l.any fun z=>PyData.eqv z x) != neg)) else none
 | .tuple l=>if (SeqAt.shaped x && l.all SeqAt.shaped)=true then some (.bool ((l.any fun z=>PyData.eqv z x) != neg)) else none
 | _=>none
def J7 (K:PySem.W.Frag) (neg:Bool):R2:=fun x y H Q=>∃ dy ds dx,HD K H y dy /\ (dy=.list ds \/ dy=.tuple ds) /\ HD K H x dx /\ SeqAt.shaped dx=true /\ ds.all SeqAt.shaped=true /\ Q (.bl ((ds.any fun z=>PyData.eqv z dx) != neg)) H
theorem gz {ds:List D} (h:ds.all SeqAt.shaped=true):PyData.canLayAll0 ds=true:=by
 induction ds with
 | nil=>rfl
 | cons d ds ih=>
   rw [List.all_cons,Bool.and_eq_true] at h
   have h1:=h.1
   unfold SeqAt.shaped at h1
   rw [Bool.and_eq_true] at h1
   rw [PyData.canLayAll0,h1.1,ih h.2]
   rfl
section
variable {X:Cx}
theorem oA {k:Nat} {ds:List D} {dx:D} (hr:cy k X.A) (sx:SeqAt.shaped dx=true):X.A.units + 1 + min (PyData.depthAll ds) dx.depth < cLine:=by
 unfold SeqAt.shaped at sx
 rw [Bool.and_eq_true,decide_eq_true_eq] at sx
 have:=hr.un
 have:=sx.2
 omega
theorem xH {k:Nat} (hr:cy k X.A):gT X (compareOp .In) (J7 X.K false):=by
 intro pins s σ H x y v u Q I rx ry h
 obtain ⟨dy,ds,dx,hy,hd,hx,sx,Gh,q⟩:=h
 obtain ⟨as,r1⟩:=hx.reads I rx (bW sx)
 rw [Bool.bne_false] at q
 rcases hd with rfl | rfl
 ·obtain ⟨bs,r2⟩:=hy.reads I ry (by rw [PyData.canLay0]; exact gz Gh)
  exact SeqAt.in_list_reads r2 r1 (gz Gh) (bW sx) (oA hr sx) ⟨.bl _,H,I,rfl,q⟩
 ·obtain ⟨bs,r2⟩:=hy.reads I ry (by rw [PyData.canLay0]; exact gz Gh)
  exact SeqAt.in_tuple_reads r2 r1 (gz Gh) (bW sx) (oA hr sx) ⟨.bl _,H,I,rfl,q⟩
theorem rH {k:Nat} (hr:cy k X.A):gT X (compareOp .NotIn) (J7 X.K true):=by
 intro pins s σ H x y v u Q I rx ry h
 obtain ⟨dy,ds,dx,hy,hd,hx,sx,Gh,q⟩:=h
 obtain ⟨as,r1⟩:=hx.reads I rx (bW sx)
 rw [Bool.bne_true] at q
 rcases hd with rfl | rfl
 ·obtain ⟨bs,r2⟩:=hy.reads I ry (by rw [PyData.canLay0]; exact gz Gh)
  exact SeqAt.notIn_list_reads r2 r1 (gz Gh) (bW sx) (oA hr sx) ⟨.bl _,H,I,rfl,q⟩
 ·obtain ⟨bs,r2⟩:=hy.reads I ry (by rw [PyData.canLay0]; exact gz Gh)
  exact SeqAt.notIn_tuple_reads r2 r1 (gz Gh) (bW sx) (oA hr sx) ⟨.bl _,H,I,rfl,q⟩
end
set_option tactic.hygienic true in
theorem mh {K:PySem.W.Frag} {neg:Bool}:i4 K (J7 K neg) (mf neg):=by
 intro A H x y dx dy d Q al hx hy e q
 unfold mf at e
 cases dy with
 | list l=>
   simp only at e
   split at e
   ·rename_i c
    rw [Bool.and_eq_true] at c
    cases e
    exact ⟨_,l,dx,hy.HK,.inl rfl,hx.HK,c.1,c.2,q _ H (aA.refl H) (.bl _)⟩
   ·cases e
 | tuple l=>
   simp only at e
   split at e
   ·rename_i c
    rw [Bool.and_eq_true] at c
    cases e
    exact ⟨_,l,dx,hy.HK,.inr rfl,hx.HK,c.1,c.2,q _ H (aA.refl H) (.bl _)⟩
   ·cases e
 | _=>cases e
set_option tactic.hygienic true in
theorem Gi (gi:DS->Option (List D)) (ix:List Nat) (ge:DS->Option D):dj gi ix ge=ba gi 1 ix (aD 0) (fun _=>some true) ge:=by
 funext δ
 unfold dj ba
 cases gi δ with
 | none=>rfl
 | some ds=>
   rw [Option.bind_some,Option.bind_some]
   split
   ·induction ds with
    | nil=>rfl
    | cons d ds ih=>
      rename_i h
      rw [CI,nj,ih (by rw [List.length_cons] at h; omega)]
      show _=Option.bind (Option.map some (ge (some d :: gy ix δ))) _
      cases ge (some d :: gy ix δ) <;> rfl
   ·rfl
section
variable {X:Cx} {O:List Nat} {gi:DS->Option (List D)} {ix:List Nat} {ge:DS->Option D}
theorem PE.Bu {e:Expr} (h:PE X e (tN X.K O (ba gi 1 ix (aD 0) (fun _=>some true) ge))):PE X e (tN X.K O (dj gi ix ge)):=by rw [Gi]; exact h
end
end L2
namespace L2
open PySem PySem.Spec PyProof.Rows PySem.Calls
set_option maxRecDepth 100000
theorem xI:typeLookup (.type "list_reverseiterator") "__len__"=pure none:=by rw [typeLookup_type,builtinLookup_eq_fast]; kernel_rfl
theorem Dm:typeLookup (.type "list_reverseiterator") "__length_hint__"=pure (some (.builtin "list_reverseiterator.__length_hint__")):=by rw [typeLookup_type,builtinLookup_eq_fast]; kernel_rfl
section
variable {prog:Program} {w:World} {A:Around} {E:Value->Shared->Prop} {s:Shared}
theorem Dp {it l:Addr} {i:Int} {Q:Bool->Shared->Prop} (hit:s.heap.IsRevIter it l i) (h:Q false s):wpAny (model prog w) A (Builtin.List.listLengthHint (.ref it)) Q E s:=by
 unfold Builtin.List.listLengthHint
 have hT:=hit.typeIs (s:=s)
 refine wpAny_bind (wpAny_specialOf hT xI ?_)
 refine wpAny_ite_split (fun z=>absurd z (by decide +kernel)) fun _=>?_
 refine wpAny_ite_split (fun z=>absurd z (by decide +kernel)) fun _=>?_
 refine wpAny_bind (wpAny_specialOf hT Dm ?_)
 generalize MD:("list_reverseiterator.__length_hint__":String)=id0
 wp_delta
 rw [show splitId id0=some ("list_reverseiterator","__length_hint__") from by subst MD; decide +kernel]
 subst MD
 refine wpAny_bind (wpAny_isInstance (T:="list_reverseiterator") (b:=true) hT (by rw [isSubtype_type]; kernel_rfl) ?_)
 refine wpAny_ite_split (fun z=>absurd z (by decide)) fun _=>?_
 refine wpAny_ite_split (fun _=>?_) fun z=>absurd (by decide +kernel) z
 refine wpAny_ite_split (fun z=>absurd z (by decide +kernel)) fun _=>?_
 exact wpAny_pure h
theorem qr {it l:Addr} {items:Array Value} {Q:Value->Shared->Prop} (hh:A.handled=none) (hit:s.heap.IsRevIter it l ((items.size:Int) - 1)) (hl:s.heap.IsList l items) (hz:items.size<=sizeLine)
  (h:∀ (h':Heap) (tk c':Nat),(∀ b o,b≠it->s.heap.get? b=some o->h'.get? b=some o)->h'.get? s.heap.objs.size=some { cls:=.type "list",data:=.seq items.reverse c' }->Q (.ref s.heap.objs.size) { s with heap:=h',toks:=tk }):
  wpAny (model prog w) A (call (.type "list") [.ref it]) Q E s:=by
 obtain ⟨oi,hi,ci,di⟩:=id hit
 have j4:=Heap.lt_size hi
 obtain ⟨ol,Br,cl,dl⟩:=id hl
 have el:l≠it:=fun z=>by subst z; rw [hi] at Br; cases Br; rw [ci] at cl; exact absurd cl (by decide)
 have Qi:=Heap.lt_size Br
 have W:∀ A':Around,A'.handled=none->PySem.Walks prog w A' it [it,l] [it] items.size (fun i v=>items[items.size - 1 - i]?=some v) (fun i g=>i<=items.size /\ ((∃ o,g.get? it=some o) /\ g.IsList l items) /\ g.IsRevIter it l ((items.size:Int) - 1 - (i:Int))):=fun A' hA=>
  { sub:=by simp
    frame:=fun i g g' st k=>⟨st.1,⟨let ⟨o,e⟩:=st.2.1.1; ⟨o,k it (by simp) o e⟩,let ⟨o,e,r⟩:=st.2.1.2; ⟨o,k l (by simp) o e,r⟩⟩,st.2.2.at fun o e=>k it (by simp) o e⟩
    item:=fun i s' Q' E' Z9 st q=>by
     obtain ⟨H8,⟨_,BN⟩,gn⟩:=st
     have e:(items.size:Int) - 1 - (i:Int)=((items.size - 1 - i:Nat):Int):=by omega
     rw [e] at gn
     obtain ⟨v,hv⟩:∃ v,items[items.size - 1 - i]?=some v:=⟨_,Array.getElem?_eq_getElem (by omega)⟩
     refine wpAny_pyNext_rev_item gn BN hv fun h' nI sb=>?_
     have e2:((items.size - 1 - i:Nat):Int) - 1=(items.size:Int) - 1 - ((i + 1:Nat):Int):=by omega
     rw [e2] at nI
     have kp:∀ b o,b∉[it]->s'.heap.get? b=some o->h'.get? b=some o:=fun b o hb e=>(sb.2 b (by simpa using hb)).trans e
     exact q v h' s'.toks hv ⟨by omega,⟨let ⟨o,e,_⟩:=nI; ⟨o,e⟩,let ⟨o,e,r⟩:=BN; ⟨o,kp l o (by simpa using el) e,r⟩⟩,nI⟩ kp
    done:=fun s' Q' E' st q=>by
     have gn:=st.2.2
     have e:(items.size:Int) - 1 - (items.size:Int)= -1:=by omega
     rw [e] at gn
     exact wpAny_pyNext_rev_end hA gn fun h' eb=>q h' s'.toks fun b o hb e=>eb b o (by simpa using hb) e
    self:=fun i s' Q' E' st q=>wpAny_pyIter_revIter st.2.2 q }
 refine callType_codes F.called_list (F.typeCall_list_1 (.ref it)) F.entry_list_init (code_list_new (Q₁:=fun obj bf=>obj=.ref s.heap.objs.size /\ bf={ s with heap:=s.heap.push { cls:=.type "list",data:=.seq #[] } }) (.ref it) ⟨rfl,rfl⟩) fun obj bf lj=>?_
 obtain ⟨rfl,rfl⟩:=lj
 have hS:(s.heap.push { cls:=.type "list",data:=.seq #[] }).get? s.heap.objs.size=some { cls:=.type "list",data:=.seq #[] }:=Heap.get?_push_size _ rfl
 have Ob:∀ b o,s.heap.get? b=some o->(s.heap.push { cls:=.type "list",data:=.seq #[] }).get? b=some o:=fun b o e=>Heap.get?_push_of_some _ e
 refine ⟨⟨_,hS,rfl⟩,F.args_list_init_2 _ _,?_⟩
 have Lu:it≠s.heap.objs.size:=Nat.ne_of_lt j4
 have Oc:l≠s.heap.objs.size:=Nat.ne_of_lt Qi
 have hold:∀ b o,s.heap.get? b=some o->b≠s.heap.objs.size:=fun b o e=>Nat.ne_of_lt (Heap.lt_size e)
 generalize s.heap.push { cls:=.type "list",data:=.seq #[] }=P1 at hS Ob ⊢
 generalize s.heap.objs.size=S at hS h Lu Oc hold ⊢
 refine id (wpAny_bind (id (wpAny_bind (wpAny_seqItems hS rfl (wpAny_pure (id (wpAny_bind (wpAny_updateSeq hS rfl ?_ (by seq_fits) (by seq_fits)))))))))
 have Od:=Heap.get?_update_self (Obj.mapSeq fun _=>#[]) hS rfl
 have Oe:∀ b o,b≠S->P1.get? b=some o->(P1.update S (Obj.mapSeq fun _=>#[])).get? b=some o:=fun b o hb e=>(Heap.get?_update_other _ _ (Ne.symm hb)).trans e
 generalize P1.update S (Obj.mapSeq fun _=>#[])=P2 at Od Oe ⊢
 refine wpAny_bind (wpAny_letGo ?_)
 have Dq:P2.IsRevIter it l ((items.size:Int) - 1):=hit.at fun o e=>Oe it o Lu (Ob it o e)
 have xf:P2.IsList l items:=⟨ol,Oe l ol Oc (Ob l ol Br),cl,dl⟩
 show wpAny _ A.in1.in1 (Builtin.List.listExtendWith (.ref S) (.ref it) .none) _ _ _
 have F5:S∉[it,l]:=by simp only [List.mem_cons,List.not_mem_nil,or_false,not_or]; exact ⟨Ne.symm Lu,Ne.symm Oc⟩
 have run:∀ (g:Heap) (c0:Nat),(∀ b o,b≠S->P2.get? b=some o->g.get? b=some o)->g.get? S=some { cls:=.type "list",data:=.seq #[] c0 }->
   codeAny (model prog w) A.in1 (.builtin "list.extend.loop" ⟨[.ref S,.ref it,.none],[]⟩) (wants (fun r jA=>r=.none /\ Q (.ref S) jA) E) { s with heap:=g }:=by
  intro g c0 k hg
  have N4:0<=items.size /\ ((∃ o,g.get? it=some o) /\ g.IsList l items) /\ g.IsRevIter it l ((items.size:Int) - 1 - ((0:Nat):Int)):=by
   refine ⟨Nat.zero_le _,⟨let ⟨o,e,_⟩:=Dq; ⟨o,k it o Lu e⟩,let ⟨o,e,r⟩:=xf; ⟨o,k l o Oc e,r⟩⟩,?_⟩
   have e:(items.size:Int) - 1 - ((0:Nat):Int)=(items.size:Int) - 1:=by omega
   rw [e]
   exact Dq.at fun o e=>k it o Lu e
  refine codeAny_extend_loopS (W A.in1.in1 hh).toS hz _ F5 _ items.size 0 _ #[] c0 rfl (Nat.zero_le _) N4 hg (ItemsOf.nil _) fun s' Az c' mv F7 oh=>?_
  obtain ⟨hx,gx,dx,tx,ox⟩:=s'
  have eg:gx=s.gens:=mv.gens
  have ed:dx=s.drawn:=mv.drawn
  have eo:ox=s.os:=mv.os
  subst eg ed eo
  have JQ:Az=items.reverse:=by
   apply Array.ext_getElem?
   intro j
   by_cases hj:j < Az.size
   ·have q:=oh.2 j _ (Array.getElem?_eq_getElem hj)
    have WX:j < items.size:=by rw [oh.1] at hj; exact hj
    rw [Array.getElem?_eq_getElem hj,<- q,Array.getElem?_reverse WX]
   ·rw [Array.getElem?_eq_none (by omega),Array.getElem?_eq_none (by rw [Array.size_reverse,<- oh.1]; omega)]
  rw [JQ] at F7
  refine ⟨rfl,h hx tx c' (fun b o hb e=>?_) F7⟩
  refine mv.heap b o ?_ (k b o (hold b o e) (Oe b o (hold b o e) (Ob b o e)))
  simp only [List.mem_cons,List.not_mem_nil,or_false,not_or]
  exact ⟨hold b o e,hb⟩
 unfold Builtin.List.listExtendWith
 refine wpAny_bind (wpAny_typeOf (T:="list_reverseiterator") (Dq.typeIs (s:={ s with heap:=P2 })) ?_)
 have q1:Builtin.List.listSameRef (.ref S) (.ref it)=false:=by simp [Builtin.List.listSameRef,Ne.symm Lu]
 have q2:(Value.type "list_reverseiterator" == Value.type "list")=false:=by decide
 have q3:(Value.type "list_reverseiterator" == Value.type "tuple")=false:=by decide
 simp only [q1,q2,q3,Bool.or_false,Bool.false_eq_true,if_false]
 refine wpAny_bind (wpAny_pyIter_revIter Dq ?_)
 refine wpAny_bind (wpAny_holding (Dp Dq ?_))
 refine wpAny_ite_split (fun _=>?_) (fun _=>wpAny_pure ⟨plainId_quiet F.plain_extend_loop _,run P2 _ (fun b o _ e=>e) Od⟩)
 refine wpAny_bind (wpAny_rule (wpAny_bind ?_))
 show wpAny _ _ (updateSeq S (·.push .none) >>= fun _=>updateSeq S (·.pop)) _ _ _
 refine wpAny_bind (wpAny_updateSeq Od rfl ?_)
 have MF:=Heap.get?_update_self (Obj.mapSeq (·.push Value.none)) Od rfl
 refine wpAny_updateSeq (hz:=by seq_fits) MF rfl ?_
 have PQ:=Heap.get?_update_self (Obj.mapSeq (·.pop)) MF rfl
 exact wpAny_pure ⟨plainId_quiet F.plain_extend_loop _,run _ _ (fun b o hb e=>(Heap.get?_update_other _ _ (Ne.symm hb)).trans ((Heap.get?_update_other _ _ (Ne.symm hb)).trans e)) PQ⟩
end
section
variable {X:Cx} {O:List Nat} {a:Expr} {ge:DS->Option D} {p1 p2 q1 q2:Pos} {ta:TA}
def WY (K:PySem.W.Frag) (ta:TA):TE:=fun σ H Q=>ta σ H fun vs H1=>∃ p xs,vs=[.ref p] /\ gN K H1 p xs /\ ∀ l,H1 l=none->Q (.ref l) (upd H1 l (.lst xs.reverse))
theorem xJ (m1:X.mg "list"=none) (m2:X.mg "reversed"=none) (ha:PA X [a] ta) (hc:X.calm=true) (g1:Gl X "list") (g2:Gl X "reversed")
  (s1:starEach [Expr.Call (.Name "reversed" p2) [a] [] q2] X.env=(false,eval (Expr.Call (.Name "reversed" p2) [a] [] q2) X.env) :: starEach [] X.env) (s2:starEach [a] X.env=(false,eval a X.env) :: starEach [] X.env) (s0:starEach ([]:List Expr) X.env=[]):
  PE X (.Call (.Name "list" p1) [.Call (.Name "reversed" p2) [a] [] q2] [] q1) (WY X.K ta):=by
 intro pins s σ H Q I h
 refine Call_ (fK I g1 m1 iO (PyProof.Rows.callWith_type1 ?_ s1 (by rw [s0]; rfl)))
 rw [s1,s0]
 show wpAny _ _ (spliced ((false,eval (Expr.Call (.Name "reversed" p2) [a] [] q2) X.env) :: backTo q1 [])) _ _ s
 refine Calls.spliced_cons ?_
 refine Call_ (fK I g2 m2 nO (PyProof.Rows.callWith_type1 (cO (ha q2 pins s σ H _ I h) fun us sA ⟨vs,H1,I1,r1,h1⟩=>?_) s2 (by rw [s0]; rfl)))
 obtain ⟨b,xs,e,hq,q⟩:=h1
 subst e
 obtain ⟨u,rfl,ru⟩:=vals1 r1
 cases ru
 obtain ⟨its,rv,pl,hz⟩:=I1.list hq
 have hl:=rv.length
 refine call_reversed_list pl.isList ?_
 have hit:(sA.heap.push (revObj b ((its.toArray.size:Int) - 1))).IsRevIter sA.heap.objs.size b ((its.toArray.size:Int) - 1):=⟨_,Heap.get?_push_size _ rfl,rfl,rfl⟩
 obtain ⟨f0,f1,f2,f3,f4,f5⟩:=I1.lU (b:=sA.heap.objs.size) (Nat.le_refl _) (I1.be.fresh (Nat.le_refl _))
 have I2:Inv X pins σ H1 { sA with heap:=sA.heap.push (revObj b ((its.toArray.size:Int) - 1)) }:=I1.kept (t':=sA.toks) fun b o e=>Heap.get?_push_of_some _ e
 have Vd:(sA.heap.push (revObj b ((its.toArray.size:Int) - 1))).IsList b its.toArray:=let ⟨o,e,r⟩:=pl.isList; ⟨o,Heap.get?_push_of_some _ e,r⟩
 generalize sA.heap.push (revObj b ((its.toArray.size:Int) - 1))=P1 at hit I2 Vd ⊢
 generalize sA.heap.objs.size=it at hit f0 f1 f2 f3 f4 f5 ⊢
 refine Calls.spliced_nil ?_
 refine qr (s:={ sA with heap:=P1 }) (I2.ok.hd hc) hit Vd (by rw [List.size_toArray,<- hl]; exact hz) fun h' tk c' kp hS=>?_
 have J:=I2.laid (t':=sA.toks) (o:=.lst xs.reverse) (a:=P1.objs.size) (h':=P1.push { cls:=.type "list",data:=.seq its.toArray.reverse c' }) (fun b u e=>Heap.get?_push_of_some _ e) (Nat.le_refl _)
  ⟨by rw [List.length_reverse]; exact hz,its.reverse,c',rv.reverse,by rw [Heap.get?_push_size _ rfl]; simp⟩
 have hf:=I2.be.fresh (a:=P1.objs.size) (Nat.le_refl _)
 have el:it≠P1.objs.size:=Nat.ne_of_lt (let ⟨_,e,_⟩:=hit; Heap.lt_size e)
 have J2:=J.turned (t':=tk) (h':=h') (it:=it) (fun b o hb e=>?_) (by rw [aB el]; exact f0) f1 f3 f4 f5
 ·exact ⟨.ref P1.objs.size,_,J2,rfl,q _ hf⟩
 ·by_cases z:b=P1.objs.size
  ·subst z
   rw [Heap.get?_push_size _ rfl] at e
   cases e
   exact hS
  ·exact kp b o hb (by rw [Heap.get?_push_ne _ _ _ z] at e; exact e)
def Qj:D->Option (List D)
 | .list l=>some l.reverse
 | _=>none
def pA (g:DS->Option D):DS->Option (List D):=fun δ=>(g δ).bind Qj
theorem xK (m1:X.mg "list"=none) (m2:X.mg "reversed"=none) (ha:PE X a (gU X.K O ge)) (hc:X.calm=true:=by rfl) (g1:Gl X "list":=by rfl) (g2:Gl X "reversed":=by rfl)
  (s1:starEach [Expr.Call (.Name "reversed" p2) [a] [] q2] X.env=(false,eval (Expr.Call (.Name "reversed" p2) [a] [] q2) X.env) :: starEach [] X.env:=by rfl) (s2:starEach [a] X.env=(false,eval a X.env) :: starEach [] X.env:=by rfl) (s0:starEach ([]:List Expr) X.env=[]:=by rfl):
  PE X (.Call (.Name "list" p1) [.Call (.Name "reversed" p2) [a] [] q2] [] q1) (tN X.K O (pA ge)):=
 (xJ m1 m2 (bg ha cn s2) hc g1 g2 s1 s2 s0).mono fun σ H Q hh=>hh.e fun U A0 δ ds R ed q=>by
  obtain ⟨d,e1,e2⟩:=bind1 ed
  cases d with
  | list l=>
    cases e2
    refine ⟨U,A0,δ,_,R,e1,fun v H1 s h=>?_⟩
    obtain ⟨p,xs,rfl,h1,h2⟩:=h.list
    exact ⟨p,xs,rfl,h1.sq,fun r hr=>ri s q r xs.reverse hr h2.rev⟩
  | _=>cases e2
end
end L2
namespace LS
open PySem PySem.Spec PyProof.Rows
section
variable {prog:Program} {w:World} {A:Around} {E:Value->Shared->Prop} {s:Shared} {it d:Addr} {i n ep:Nat} {od:Obj} {es:Array DictEntry}
end
end LS
namespace L2
open PySem PySem.Spec PyProof.Rows
section
variable {P:Program} {w:World} {K:PySem.W.Frag} {mg:Str->Option Value} {base:Heap} {x:Str} {st:Stmt} {N ps:List Str} {k:Nat}
end
section
variable {X:Cx} {O:List Nat} {e:Expr} {es:List Expr} {gr:DS->Option (List D)} {pos p:Pos} {n k kk:Nat} {x:Str} {ps:List Str}
end
section
variable {X:Cx} {O:List Nat} {gk gd:DS->Option D} {i o:Expr} {pos:Pos}
end
theorem Inv.freeze {X:Cx} {pins:List (Addr×Obj)} {σ:St} {H:Hp} {s:Shared} {r:Addr} {aF:List (List Key×V)} (I:Inv X pins σ H s) (h:H r=some (.dT aF)):∃ ob,Inv X pins σ (upd H r (.n6 ob (.dT aF))) s:=by
 obtain ⟨hz,hs,xs,pr,ob,es,ep,e1,e2,e3,e4,e5⟩:=(show bN X.prog X.w H s.heap r (.dT aF) from I.be r _ h)
 refine ⟨ob,oq (t':=s.toks) (h':=s.heap) I (by rw [h]; trivial) ⟨rfl,fun _ _=>rfl⟩ ⟨ob,e1⟩ ⟨e1,hz,hs,xs,?_,ob,es,ep,e1,e2,e3,e4,e5⟩⟩
 refine Paired.imp' (fun p q z=>⟨z.1,?_,z.2.2⟩) pr
 have t:=z.2.1
 have el:q.2.1≠r:=fun y=>by rw [y] at t; rcases t with t | ⟨o,t⟩ <;> rw [h] at t <;> cases t
 rcases t with t | ⟨o,t⟩
 ·exact .inl (by rw [aB el]; exact t)
 ·exact .inr ⟨o,by rw [aB el]; exact t⟩
section
variable {X:Cx} {O:List Nat} {e:Expr} {gl:DS->Option (List (D×D))}
end
def zt (gk gd:DS->Option D):DS->Option D:=fun δ=>(gk δ).bind fun y=>(gd δ).bind fun x=>match x with
 | .dict ((.list [],.bool true) :: kds)=>(keyOf y).bind fun k=>some (.bool (bz kds k).isSome)
 | _=>none
section
variable {X:Cx} {O:List Nat} {gk gd:DS->Option D} {i o:Expr} {pos:Pos} {K:PySem.W.Frag} {A:List Addr} {H:Hp}
theorem fY.n6 {x:V} {kds:List (D×D)} (h:fY K A H x (.dict ((.list [],.bool true) :: kds))):∃ a ob aF,x=.ref a /\ H a=some (.n6 ob (.dT aF)) /\ DK K (wo H A) aF kds:=by
 rcases h with h | ⟨l,o,rfl,e,q⟩
 ·cases h with
  | @l8 _ aF _ _ kk _=>
    cases aF with
    | nil=>cases kk
    | cons a b=>cases (List.cons.inj kk).1
  | fz hq k h=>exact ⟨_,_,_,rfl,bq _ _ hq,DK.of k h⟩
 ·cases q with
  | @l8 aF _ kk _=>
    cases aF with
    | nil=>cases kk
    | cons a b=>cases (List.cons.inj kk).1
theorem Gj (hu:X.A.units + 1 < cLine) (hi:PE X i (gU X.K O gk)) (ho:PE X o (gU X.K O gd)) (hm:behindInMarks .In o=false:=by rfl):PE X (.Compare i [.In] [o] pos) (tE X.K O (zt gk gd)):=(ID (Jq hu hi ho) hm).mono fun σ H Q hh=>hh.e fun U A0 δ d R ed q=>by
 obtain ⟨y,e1,e2⟩:=bind1 ed
 obtain ⟨x,e3,e4⟩:=bind1 e2
 refine ⟨U,A0,δ,y,R,e1,fun v H1 s1 h1=>⟨U,A0,δ,x,R.same s1,e3,fun v2 H2 s2 h2=>?_⟩⟩
 split at e4
 ·obtain ⟨k,e5,e6⟩:=bind1 e4
  cases e6
  obtain ⟨a,ob,aF,rfl,ha,dk⟩:=h2.n6
  obtain ⟨b,rfl,hb⟩:=(h1.same s2).key e5
  refine ⟨a,_,rfl,.inr ⟨aF,k,b,.inr ⟨ob,ha⟩,rfl,hb,rfl⟩,q _ H2 (s1.trans s2) ?_⟩
  rw [dk.U7 k]; exact .bl _
 ·cases e4
end
section
variable {X:Cx} {O:List Nat} {tg e:Expr} {ge:DS->Option D}
end
def AL (CX:BX) (P:Program) (w:World) (K:PySem.W.Frag) (mg:Str->Option Value) (base:Heap) (N:List Str) (qual:Str) (scope:Scope) (f:Addr) (cd:Value) (cl:List (Str×Addr)) (A:Around) (outer:List Env) (s:Shared) (H:Hp) (E:XK):Cx where
 prog:=P
 w:=w
 K:=K
 mg:=mg
 base:=base
 A:=A.deeper (PySem.W.envX qual scope s.heap.objs.size f cd cl)
 N:=N
 fm:=s
 z4:=H
 env:=PySem.W.envX qual scope s.heap.objs.size f cd cl
 outer:=outer
 stack:=PySem.W.envX qual scope s.heap.objs.size f cd cl :: outer
 ex:=[]
 calm:=true
 fn:=fun _=>false
 pn:=[]
 xe:=fun e s'=>wpAny (model P w) (A.deeper (PySem.W.envX qual scope s.heap.objs.size f cd cl)) (leaving (PySem.W.envX qual scope s.heap.objs.size f cd cl) e) (fun _ Fi=>CX outer H s E e Fi) (fun e' Fi=>CX outer H s E e' Fi) s'
structure Gk (ps fv:List Str) (sc:Scope) (cl:List (Str×Addr)):Prop where
 kind:sc.kind=.function
 co:sc.isCoroutine=false
 gen:sc.isGenerator=false
 ni:∀ y∈sc.names,y.2≠.cell
 nd:(ps ++ fv).Nodup
 par:∀ x∈ps,sc.names.lookup x=some .local
 fr:∀ x∈fv,sc.names.lookup x=some .free
 only:∀ x,sc.names.lookup x=some .free->∃ c,cl.lookup x=some c
 inj:∀ x y c,cl.lookup x=some c->cl.lookup y=some c->x=y
theorem u5 {y:Str} {u:Value}:∀ {l:List (Str×Value)},(l.map (·.1)).Nodup->(y,u)∈l->l.lookup y=some u
 | (z,w) :: l,nd,h=>by
   rw [List.map_cons,List.nodup_cons] at nd
   rcases List.mem_cons.mp h with e | e
   ·cases e; rw [List.lookup_cons]; simp
   ·have el:(y == z)=false:=by
     cases q:y == z with
     | false=>rfl
     | true=>rw [<- eq_of_beq q] at nd; exact absurd (List.mem_map.mpr ⟨_,e,rfl⟩) nd.1
    rw [List.lookup_cons,el]
    exact u5 nd.2 e
theorem nS:∀ (ps:List Str) (us:List Value),((ps.zip us).map (·.1)).Sublist ps
 | [],_=>by simp
 | p :: ps,[]=>by simp
 | p :: ps,u :: us=>by rw [List.zip_cons_cons,List.map_cons]; exact (nS ps us).cons₂ p
theorem Dr {ps:List Str} {us:List Value} {i:Nat} {y:Str} {u:Value} (nd:ps.Nodup) (h1:ps[i]?=some y) (h2:us[i]?=some u):(ps.zip us).reverse.lookup y=some u:=by
 refine u5 ?_ (List.mem_reverse.mpr ?_)
 ·rw [List.map_reverse]
  refine List.pairwise_reverse.mpr (List.Pairwise.imp (fun h=>Ne.symm h) ?_)
  exact nd.sublist (nS ps us)
 ·exact List.mem_of_getElem? (i:=i) (by rw [List.getElem?_zip_eq_some]; exact ⟨h1,h2⟩)
theorem MW {P:Program} {w:World} {K:PySem.W.Frag} {mg:Str->Option Value} {base:Heap} {k:Nat} {f c':Addr} {name qual:Str} {params:Arguments} {body:Expr} {scope:Scope} {cl:List (Str×Addr)} {pm ur:Value} {ps fv:List Str} {cvs:List V} {sp:Sp}
  (hf:base.get? f=some (PySem.W.kla_obj name qual params body scope cl pm c' ur)) (S:Gk ps fv scope cl) (MX:cvs.length=fv.length)
  (cells:∀ (i:Nat) (x:Str) (v:V),fv[i]?=some x->cvs[i]?=some v->∃ c u,cl.lookup x=some c /\ base.IsCell c (some u) /\ RelV v u)
  (MY:∀ x c,cl.lookup x=some c->∃ v,base.IsCell c v)
  (len:∀ vs H Q E,sp vs H Q E->vs.length=ps.length) (code:∀ vs H Q E,sp vs H Q E->H c'=some (.code qual))
  (gq:∀ (A:Around) (outer:List Env) (s:Shared) (H:Hp) (vs:List V) (Q:VK) (E:XK),cy k (A.deeper (PySem.W.envX qual scope s.heap.objs.size f (.ref c') cl))->sp vs H Q E->
   ∃ t,PE (AL mF P w K mg base (ps ++ fv) qual scope f (.ref c') cl A outer s H E) body t /\ t ((vs ++ cvs).map some) H Q):
  lb P w K mg base mF (k + 1) f (PySem.W.kla_fn name qual params body scope cl pm (.ref c') ur) ps sp:=by
 refine ⟨len,fun A outer s H args us vs Q E hr e0 hb r uJ=>?_⟩
 have hl:=len _ _ _ _ uJ
 have lim:s.heap.NoLimit:=e0.mod.nolimit.keeps fun b o e=>(e0.bs b o e).1
 have WZ:s.heap.CodeRec (.ref c') qual:=e0.be c' _ (code _ _ _ _ uJ)
 refine PySem.W.kla_callFunE hr.depth (e0.bs f _ hf).1 rfl S.co S.gen rfl WZ (hb _ _ _ _ ?_)
 refine wpAny_newFunctionEnv S.ni (fun y hy=>S.par y.1 (List.of_mem_zip hy).1) (fun h' ns sb=>?_) S.kind
 have kp:∀ b o,s.heap.get? b=some o->h'.get? b=some o:=fun b o e=>(sb.2 b (Nat.ne_of_lt (Heap.lt_size e))).trans (Heap.get?_push_of_some _ e)
 refine ⟨lim.keeps kp,PySem.W.kla_codeExpr ?_⟩
 obtain ⟨t,ht,hq⟩:=gq A outer s H vs Q E (hr.deeper _) uJ
 have W0:us.length=ps.length:=by rw [<- r.length]; exact hl
 have I:Inv (AL mF P w K mg base (ps ++ fv) qual scope f (.ref c') cl A outer s H E) [] ((vs ++ cvs).map some) H { s with heap:=h',toks:=s.toks + (ps.zip us).length }:=by
  have Fj:∀ b:Addr,b∉(AL mF P w K mg base (ps ++ fv) qual scope f (.ref c') cl A outer s H E).ex:=fun b z=>absurd (show b∈([]:List Addr) from z) (by simp)
  refine ⟨⟨e0.mod,S.kind,rfl,rfl,Nat.le_refl _,S.inj,fun y hy=>?_,fun y c h=>(by cases h),fun _=>hr.hd,Around.frames_deeper e0.frames,.inr ⟨rfl,rfl⟩,fun b z=>absurd z (Fj b),e0.bs,e0.yY,fun b _ _=>Fj b,fun b z=>absurd z (Fj b),e0.ig,e0.wR⟩,
   rfl,e0.bare,Un.kept kp,⟨_,ns,fun i y v h1 h2 h3=>?_⟩,fun y c h=>?_,e0.be.fresh (Nat.le_refl _),fun y c h=>?_,fun p hp=>absurd (show p∈([]:List (Addr×Obj)) from hp) (by simp),e0.be.kept kp,?_⟩
  ·have hy:scope.names.lookup y=some .cell \/ scope.names.lookup y=some .free:=hy
   rcases hy with hy | hy
   ·exact absurd rfl (S.ni _ (PySem.mem_of_lookup hy))
   ·exact S.only y hy
  ·have h1:(ps ++ fv)[i]?=some y:=h1
   have h2:((vs ++ cvs).map some)[i]?=some (some v):=h2
   have ha:(vs ++ cvs)[i]?=some v:=by
    rw [List.getElem?_map] at h2
    cases e:(vs ++ cvs)[i]? with
    | none=>rw [e] at h2; cases h2
    | some a=>rw [e] at h2; cases h2; rfl
   by_cases hi:i < ps.length
   ·rw [List.getElem?_append_left hi] at h1
    rw [List.getElem?_append_left (by omega)] at ha
    obtain ⟨u,hu,rv⟩:=r.get ha
    exact ⟨u,rv,.inl ⟨S.par y (List.mem_of_getElem? h1),Dr (S.nd.sublist (List.sublist_append_left _ _)) h1 hu⟩⟩
   ·rw [List.getElem?_append_right (by omega)] at h1
    rw [List.getElem?_append_right (by omega),hl] at ha
    obtain ⟨c,u,e1,⟨o,e2,e3⟩,rv⟩:=cells _ y v h1 ha
    exact ⟨u,rv,.inr ⟨.inr (S.fr y (List.mem_of_getElem? h1)),c,e1,o,kp _ _ (e0.bs c o e2).1,e3⟩⟩
  ·obtain ⟨v,o,e1,e2⟩:=MY y c h
   exact ⟨v,o,kp _ _ (e0.bs c o e1).1,e2⟩
  ·obtain ⟨v,o,e1,e2⟩:=MY y c h
   exact (e0.bs c o e1).2
  ·show _=(ps ++ fv).length
   rw [List.length_map,List.length_append,List.length_append,hl,MX]
 refine wpAny_mono (ht [] _ ((vs ++ cvs).map some) H _ I hq) (fun u s' hs=>?_) fun e s' hs=>hs
 obtain ⟨v,H',J,rv,q⟩:=hs
 exact ⟨v,H',J.os,J.bare,J.base,J.be,rv,q⟩
section
variable {X:Cx} {pins:List (Addr×Obj)} {σ:St} {H:Hp} {s:Shared}
def nT (X:Cx) (s:Shared) (H:Hp):Heap:=PySem.W.hideAll (qg s.heap H) (j5 X.stack)
theorem Ds {b:Addr} {o:Obj} (e:(nT X s H).get? b=some o):s.heap.get? b=some o /\ H b=none:=yX (PySem.W.of_hideAll _ e)
theorem kS {b:Addr} {o:Obj} (e:s.heap.get? b=some o) (n:H b=none) (f:b∉j5 X.stack):(nT X s H).get? b=some o:=PySem.W.hideAll_get _ (lS e n) f
theorem Inv.wide (I:Inv X pins σ H s) {b:Addr} {o:Obj} (e:X.base.get? b=some o):(nT X s H).get? b=some o:=
 kS (I.bs b o e).1 (I.bs b o e).2 fun z=>by rw [(I.stack.mem z).1] at e; cases e
theorem Ns.widen {h h':Heap} {a:Addr} {m:Str->Option Value} (k:∀ b o,h.get? b=some o->h'.get? b=some o) (n:h.Ns a m):h'.Ns a m:=let ⟨o,es,ep,e,r⟩:=n; ⟨o,es,ep,k _ _ e,r⟩
theorem Mod.widen {K:PySem.W.Frag} {mg:Str->Option Value} {h h':Heap} (m:Mod K mg h) (k:∀ b o,h.get? b=some o->h'.get? b=some o):Mod K mg h':=
 ⟨m.Hq.keeps k,Ns.widen k m.glob,let ⟨mb,h1,h2⟩:=m.blt; ⟨mb,Ns.widen k h1,h2⟩,m.nolimit.keeps k⟩
theorem rJ {h base Ie:Heap}:∀ {l:List Env},h.FunFrames base l->(∀ b∈j5 l,Ie.get? b=none)->h.FunFrames Ie l
 | [],_,_=>trivial
 | env :: l,f,n=>by
   obtain ⟨h1,⟨L,o,e1,e2,e3⟩,h3⟩:=f
   have hL:L∈j5 (env :: l):=by unfold j5; rw [List.filterMap_cons,e1]; exact List.mem_cons_self
   refine ⟨h1,⟨L,o,e1,n L hL,e3⟩,rJ h3 fun b hb=>n b ?_⟩
   unfold j5 at hb ⊢
   rw [List.filterMap_cons,e1]
   exact List.mem_cons_of_mem _ hb
theorem Inv.Qk (I:Inv X pins σ H s):w9 X.prog X.w X.K X.mg (nT X s H) X.A X.stack s H:=
 ⟨I.ok.frames,I.ok.mod.widen fun _ _ e=>I.wide e,fun _ _ e=>Ds e,by unfold nT; rw [PySem.W.hideAll_size,qP]; exact Nat.le_refl _,rJ I.stack fun _ hb=>PySem.W.hideAll_none _ hb,I.om,I.be,I.bare⟩
end
section
variable {X:Cx} {pins:List (Addr×Obj)} {σ:St} {H:Hp} {s:Shared}
theorem J8 {params:Arguments} {body:Expr} {scope:Scope} {pos:Pos} {c P:Addr} {q:Str} {Q:Value->Shared->Prop} {E:Value->Shared->Prop} (I:Inv X pins σ H s) (hd:defaultsOf params X.env=([],[]))
  (mG:∀ y∈scope.names,y.2=.free->∃ c,X.env.cells.lookup y.1=some c) (rK:X.env.code=.ref c) (hH:PySem.W.CodeHd s.heap c P) (hP:H P=some (.lam pos q)) (hq:X.env.qual ++ Str.ofString "<lambda>"=q) (hb:s.heap.BuiltinsAt X.mg P) (W1:mainGlobals≠P)
  (h:∀ (cl:List (Str×Addr)) (f c':Addr) (ur:Value) (s':Shared) (H':Hp),(∀ n c,cl.lookup n=some c->X.env.cells.lookup n=some c)->(∀ n,(n,NameKind.free)∈scope.names->∃ c,cl.lookup n=some c)->Inv X pins σ H' s'->aA H H'->H' c'=some (.code q)->H' f=none->f∉j5 X.stack->
   s'.heap.get? f=some (PySem.W.kla_obj (Str.ofString "<lambda>") q params body scope cl ((X.mg (Str.ofString "__name__")).getD .none) c' ur)->Q (.ref f) s'):
  wpAny (model X.prog X.w) X.A (eval (.Lambda params body scope pos) X.env) Q E s:=by
 subst hq
 refine PySem.W.kla_eval hd ?_
 obtain ⟨cl,e1,h1,h2⟩:=ll mG
 obtain ⟨ps,MZ,ht,hc⟩:=(show bN X.prog X.w H s.heap P (.lam pos _) from I.be P _ hP)
 have xM:s.heap.Ns mainGlobals X.mg:=Ns.widen I.bk I.ok.mod.glob
 have jn:∀ f:Addr,s.heap.objs.size<=f->f∉j5 X.stack:=fun f hf z=>by
  obtain ⟨_,o,e,_⟩:=I.stack.mem z
  exact Nat.lt_irrefl _ (Nat.lt_of_lt_of_le (Heap.lt_size e) hf)
 rcases hc with hn | ⟨c',La,NV⟩
 ·refine PySem.W.kla_makeFunction e1 I.ok.glob xM rK hH MZ ht hn W1 hb fun c' ur h' tk ext Of j4 Ql M0=>?_
  have J9:H c'=none:=I.be.fresh Of
  have hPc:P≠c':=fun z=>by rw [z,J9] at hP; cases hP
  have un:Un X.fs [] H (upd H c' (.code (X.env.qual ++ Str.ofString "<lambda>"))) s.heap h':=by
   have kp:∀ b o,s.heap.get? b=some o->H b=none->h'.get? b=some o:=fun b o e n=>ext b o (fun z=>by rw [z,hP] at n; cases n) e
   refine ⟨fun b o e n _ _=>kp b o e n,fun b o e n _ _=>⟨o.slots,kp b o e n⟩,fun b o e n _=>?_,fun b o e _=>?_,fun b xs e=>?_,fun b o u e=>?_,fun b ts e=>⟨#[],?_⟩⟩
   ·rw [aB (Nat.ne_of_lt (Nat.lt_of_lt_of_le (Heap.lt_size e) Of))]; exact n
   ·by_cases z:b=P
    ·rw [z]; exact ⟨_,M0⟩
    ·exact ⟨o,ext b o z e⟩
   ·rw [aB (aP e J9)]; exact e
   ·rw [aB (aP e J9)]; exact e
   ·rw [aB (aP e J9),e]; simp
  have ok:j8 X.prog X.w (upd H c' (.code (X.env.qual ++ Str.ofString "<lambda>"))) h':=fun a o e=>by
   by_cases ha:a=c'
   ·subst ha; rw [aZ] at e; cases e; exact Ql
   ·rw [aB ha] at e
    by_cases ET:a=P
    ·subst ET
     rw [hP] at e; cases e
     exact ⟨_,M0,by rw [Array.toList_append]; exact TriplesOk_snoc _ _ _ _ ht,.inr ⟨c',by rw [Array.toList_append]; exact codeAmong_snoc _ ht hn,aZ⟩⟩
    ·refine (I.be a o e).mJ (fun b u Qm q=>ext b u ?_ q) (fun b q=>by rw [aB (aP q J9)]; exact q) fun b xs q=>q.new J9
     rcases Qm with z | z
     ·rw [z]; exact ET
     ·intro y; rw [y,hP] at z; cases z
  have I1:=I.un (t':=tk) un ok
  have hsz:s.heap.objs.size<=h'.objs.size:=Nat.le_of_lt (Nat.lt_of_le_of_lt Of j4)
  have I2:Inv X pins σ (upd H c' (.code (X.env.qual ++ Str.ofString "<lambda>"))) { s with heap:=h'.push (PySem.W.kla_obj (Str.ofString "<lambda>") (X.env.qual ++ Str.ofString "<lambda>") params body scope cl ((X.mg (Str.ofString "__name__")).getD .none) c' ur),toks:=tk }:=
   I1.kept (t':=tk) fun b o e=>Heap.get?_push_of_some _ e
  exact h cl h'.objs.size c' ur _ _ h1 h2 I2 (fun b o e=>by rw [aB (aP e J9)]; exact e) aZ (ok.fresh (Nat.le_refl _)) (jn _ hsz) (Heap.get?_push_size _ rfl)
 ·refine PySem.W.kla_makeFunctionHit e1 I.ok.glob xM rK hH MZ ht La hb fun ur h' tk kp hsz=>?_
  have I2:Inv X pins σ H { s with heap:=h'.push (PySem.W.kla_obj (Str.ofString "<lambda>") (X.env.qual ++ Str.ofString "<lambda>") params body scope cl ((X.mg (Str.ofString "__name__")).getD .none) c' ur),toks:=tk }:=
   I.kept (t':=tk) fun b o e=>Heap.get?_push_of_some _ (kp b o e)
  exact h cl h'.objs.size c' ur _ _ h1 h2 I2 (aA.refl H) NV (I.be.fresh hsz) (jn _ hsz) (Heap.get?_push_size _ rfl)
end
structure Ca where
 c:Addr
 a:Addr
 kds:List (D×D)
def gA (f:Addr) (c:Ca) (q:Str):D:=.dict [(.list [],.tuple [.int (f:Nat),.int (c.c:Nat),.int (c.a:Nat),.str q,.dict c.kds])]
def M1 (K:PySem.W.Frag) (c:Ca) (q:Str) (H:Hp):Prop:=H c.c=some (.code q) /\ HD K H (.ref c.a) (.dict ((.list [],.bool true) :: c.kds))
def Ve (K:PySem.W.Frag) (c:Ca) (q:Str) (n:Nat) (G:List D->Option D):Sp:=fun vs H Q _=>vs.length=n /\ ∃ A ds d,Ls A H /\ M1 K c q (wo H A) /\ cj K (wo H A) vs ds /\ G ds=some d /\ ∀ v H',aA H H'->HD K (wo H' A) v d->Q v H'
structure Og (P:Program) (w:World) (K:PySem.W.Frag) (mg:Str->Option Value) (base:Heap) (k:Nat) (f:Addr) (c:Ca) (q:Str) (n:Nat) (G:List D->Option D):Prop where
 fn:PySem.W.FnAt f base
 ok:∃ fd ps,lb P w K mg base mF k f fd ps (Ve K c q n G) /\ Binds K fd ps []
section
variable {X:Cx} {O:List Nat} {i k kk n:Nat} {f:Addr} {c:Ca} {q x:Str} {e:Expr} {es:List Expr} {p pos:Pos} {t:TA} {sp:Sp} {fd:FuncData} {ps:List Str} {G:List D->Option D} {gr:DS->Option (List D)}
def Ka (i:Nat) (f:Addr) (sp:Sp) (t:TA):TE:=fun σ H Q=>σ[i]?=some (some (.ref f)) /\ t σ H fun vs H1=>sp (vs ++ []) H1 Q E0
theorem Du (F:lb X.prog X.w X.K X.mg X.base mF k f fd ps sp) (hf:PySem.W.FnAt f X.base) (hr:cy k X.A) (hb:Binds X.K fd ps []) (ha:PA X (e :: es) t) (hN:X.N[i]?=some x) (hv:K8 X.env.scope x) (hd:(x == ("__debug__":Str))=false) (mO:(x == ("__classdict__":Str))=false)
  (he:starEach (e :: es) X.env=(false,eval e X.env) :: starEach es X.env) (iH:(backTo pos (starEach es X.env)).any (·.1)=false):PE X (.Call (.Name x p) (e :: es) [] pos) (Ka i f sp t):=by
 intro pins s σ H Q I h
 obtain ⟨h1,h2⟩:=h
 have fnAt:∀ {s:Shared} {H:Hp} {σ:St},Inv X pins σ H s->PySem.W.FnAt f s.heap:=fun {s H σ} I=>let ⟨oc,od,fd,sl,e⟩:=hf; ⟨oc,od,fd,sl,I.bk _ _ e⟩
 refine wpAny_Call_Name_kw (cO (BE hN hv hd mO pins s σ H (fun v H'=>v=.ref f /\ H'=H) I ⟨_,h1,rfl,rfl⟩) fun u s1 ⟨v,H1,I1,r,e1,e2⟩=>?_)
 subst e1 e2
 cases (show u=Value.ref f from r)
 refine PySem.W.callWith_F (fnAt I1) (cO (ha pos pins s1 σ H1 _ I1 h2) fun us s2 ⟨vs,H2,I2,r2,q2⟩=>⟨fnAt I2,?_⟩) he iH
 exact BY F hr hb .nil HA I2 r2 q2
def nq (f:Addr) (c:Ca) (q:Str) (G:List D->Option D) (n i:Nat) (g:DS->Option (List D)):DS->Option D:=fun δ=>open Classical in if δ[i]?=some (some (gA f c q)) then (g δ).bind fun ds=>if ds.length=n then G ds else none else none
set_option tactic.hygienic true in
theorem Dv (C:Og X.prog X.w X.K X.mg X.base k f c q n G) (hr:cy kk X.A) (hk:k<=kk) (ha:PA X (e :: es) (rh X.K O gr)) (hN:X.N[i]?=some x:=by rfl) (hv:Jl (X.env.scope.names.lookup x)=true:=by rfl) (hd:(x == ("__debug__":Str))=false:=by decide) (mO:(x == ("__classdict__":Str))=false:=by decide)
  (he:starEach (e :: es) X.env=(false,eval e X.env) :: starEach es X.env:=by rfl) (iH:(backTo pos (starEach es X.env)).any (·.1)=false:=by rfl) (hi:i∉O:=by decide):PE X (.Call (.Name x p) (e :: es) [] pos) (tE X.K O (nq f c q G n i gr)):=by
 obtain ⟨fd,ps,F,hb⟩:=C.ok
 refine (Du F C.fn (hr.mono hk) hb ha hN (B9 hv) hd mO he iH).mono fun σ H Q hh=>hh.e fun U A0 δ d R ed q'=>?_
 unfold nq at ed
 split at ed
 ·rename_i hs
  obtain ⟨ds,e1,e2⟩:=bind1 ed
  split at e2
  ·rename_i hn
   obtain ⟨v,ev,HU⟩:=R.fz i _ hi hs
   have key:v=.ref f /\ M1 X.K c q (wo H (U ++ A0)):=by
    unfold gA at HU
    obtain ⟨cc,ca,ck⟩:=c
    cases HU with
    | fn hc hq k h=>exact ⟨by simpa using rfl,hc,.fz hq k h⟩
    | @l8 a aF kds h1 kk h3=>
      exfalso
      cases aF with
      | nil=>cases kk
      | cons p r=>simp at kk
   refine ⟨by rw [ev,key.1],U,A0,δ,ds,R,e1,fun vs H' s h=>?_⟩
   show Ve X.K c q n G (vs ++ []) H' Q E0
   rw [List.append_nil]
   exact ⟨by rw [h.len]; exact hn,U ++ A0,ds,d,(R.same s).al,⟨cC s _ _ key.2.1,key.2.2.same (cC s)⟩,h,e2,fun v H2 s2 h2=>q' v H2 (s.trans s2) h2⟩
  ·cases e2
 ·cases ed
end
def Gm (mg:Str->Option Value) (h:Heap):Prop:=∃ bm ob,mg (Str.ofString "__builtins__")=some (.ref bm) /\ bm≠builtinsNs /\ h.get? bm=some ob /\ ob.cls=.type "module" /\ ob.dict=some builtinsNs /\ ob.data=.plain
def Qn (kds:List (D×D)):D:=.dict ((.list [],.bool true) :: kds)
def u6 (gb:DS->Option D) (kds:List (D×D)):List D->Option D:=fun ds=>gb ((ds ++ [Qn kds]).map some)
def AM (g:Addr->Addr->Addr->Option D):Option D:=open Classical in if h:∃ d,∀ f c a,g f c a=some d then some h.choose else none
set_option tactic.hygienic true in
theorem Dw {g:Addr->Addr->Addr->Option D} {d:D} (h:AM g=some d) (f c a:Addr):g f c a=some d:=by
 unfold AM at h
 split at h
 ·rename_i q
  cases h
  exact q.choose_spec f c a
 ·cases h
theorem Gn {g:Addr->Addr->Addr->Option D} {d:D} (h:∀ f c a,g f c a=some d):AM g=some d:=by
 unfold AM
 rw [dif_pos ⟨d,h⟩]
 have:=(⟨d,h⟩:∃ d,∀ f c a,g f c a=some d).choose_spec 0 0 0
 rw [h 0 0 0] at this
 exact this.symm
abbrev M3:=Addr->Ca->Str->(List D->Option D)->List D->Option D
def Dx (GP:M3) (q:Str) (i:Nat) (gb:DS->Option D):DS->Option D:=fun δ=>(δ[i]?).bind fun o=>o.bind fun d=>match d with
 | .dict kds=>AM fun f c a=>GP f ⟨c,a,kds⟩ q (u6 gb kds) [gA f ⟨c,a,kds⟩ q]
 | _=>none
set_option tactic.hygienic true in
theorem Dy {GP:M3} {q:Str} {i:Nat} {gb:DS->Option D} {δ:DS} {d:D} (h:Dx GP q i gb δ=some d):∃ kds,δ[i]?=some (some (.dict kds)) /\ ∀ f c a,GP f ⟨c,a,kds⟩ q (u6 gb kds) [gA f ⟨c,a,kds⟩ q]=some d:=by
 unfold Dx at h
 obtain ⟨o,e1,h⟩:=bind1 h
 obtain ⟨x,e2,h⟩:=bind1 h
 split at h
 ·rename_i kds
  exact ⟨kds,by rw [e1,e2],Dw h⟩
 ·cases h
theorem Rel.Kb {K:PySem.W.Frag} {A:List Addr} {H:Hp} {vs:List V} {ds:List D} (al:Ls A H) (h:cj K (wo H A) vs ds):Rel K [] [] A (vs.map some) (ds.map some) H where
 len:=by rw [List.length_map,List.length_map,h.len]
 fz:=fun i d _ e=>by
  rw [List.getElem?_map] at e
  cases q:ds[i]? with
  | none=>rw [q] at e; cases e
  | some d'=>
    rw [q] at e; cases e
    obtain ⟨v,e1,e2⟩:=h.get q
    exact ⟨v,by rw [List.getElem?_map,e1]; rfl,e2⟩
 ow:=fun i d hi=>by simp at hi
 inj:=fun i j d e l hi=>by simp at hi
 al:=al
structure Kc (ps fv:List Str) (sc:Scope):Prop where
 kind:sc.kind=.function
 co:sc.isCoroutine=false
 gen:sc.isGenerator=false
 ni:∀ y∈sc.names,y.2≠.cell
 nd:(ps ++ fv).Nodup
 par:∀ x∈ps,sc.names.lookup x=some .local
 fr:∀ x∈fv,sc.names.lookup x=some .free
def Oh (P:Program) (w:World) (K:PySem.W.Frag) (mg:Str->Option Value) (k kc n:Nat) (x p:Str) (GP:M3):Prop:=
 (∃ f0,mg x=some (.ref f0) /\ PySem.W.keepIn K (.ref f0)=true) /\ ∀ (base:Heap) (f:Addr) (c:Ca) (q:Str) (G:List D->Option D),K.In base->base.Ns mainGlobals mg->Og P w K mg base kc f c q n G->Dn P w K mg base k x [p] (gW K 1 (GP f c q G))
section
variable {X:Cx} {pins:List (Addr×Obj)} {σ:St} {H:Hp} {s:Shared} {O:List Nat}
theorem Kd {k:Nat} {f c' a:Addr} {name qual:Str} {params:Arguments} {body:Expr} {scope:Scope} {cl:List (Str×Addr)} {pm ur:Value} {ps:List Str} {x:Str} {i:Nat} {kds:List (D×D)} {gb:DS->Option D} (I:Inv X pins σ H s)
  (hf:s.heap.get? f=some (PySem.W.kla_obj name qual params body scope cl pm c' ur)) (hn:H f=none) (jn:f∉j5 X.stack) (h1:∀ n c,cl.lookup n=some c->X.env.cells.lookup n=some c) (h2:∀ n,(n,NameKind.free)∈scope.names->∃ c,cl.lookup n=some c)
  (E7:∀ x,X.fn x=true) (S:Kc ps [x] scope) (hN:X.N[i]?=some x) (AN:X.env.scope.names.lookup x=some .cell) (Qo:σ[i]?=some (some (.ref a)))
  (hb:∀ us:List Value,us.length=ps.length->bindArgs (PySem.W.kla_fn name qual params body scope cl pm (.ref c') ur) ⟨us,[]⟩=pure (ps.zip us))
  (gq:∀ (base:Heap) (A:Around) (outer:List Env) (s:Shared) (H:Hp) (E:XK),cy k (A.deeper (PySem.W.envX qual scope s.heap.objs.size f (.ref c') cl))->PE (AL mF X.prog X.w X.K X.mg base (ps ++ [x]) qual scope f (.ref c') cl A outer s H E) body (tE X.K [] gb)):
  Og X.prog X.w X.K X.mg (nT X s H) (k + 1) f ⟨c',a,kds⟩ qual ps.length (u6 gb kds):=by
 have IB:∀ {x:Str} {c:Addr},X.env.cells.lookup x=some c->c∉j5 X.stack:=fun {x c} e z=>by
  rcases List.mem_cons.mp (I.jx c z) with y | y
  ·exact I.BC x c e y
  ·obtain ⟨_,o,ho,_⟩:=I.ok.ig.mem y
   exact Nat.lt_irrefl _ (Nat.lt_of_lt_of_le (Heap.lt_size ho) (I.ok.BA x c (E7 x) e))
 have Ig:∀ {x:Str} {c:Addr} {v:Option Value},X.env.cells.lookup x=some c->s.heap.IsCell c v->(nT X s H).IsCell c v:=fun {x c v} e h=>by
  obtain ⟨o,e1,d⟩:=h
  exact ⟨o,kS e1 (I.fq x c e) (IB e),d⟩
 refine ⟨⟨_,_,_,_,kS hf hn jn⟩,_,ps,MW (cvs:=[V.ref a]) (kS hf hn jn) ⟨S.kind,S.co,S.gen,S.ni,S.nd,S.par,S.fr,fun x hx=>h2 x (PySem.mem_of_lookup hx),fun x y c a b=>I.ok.inj x y c (h1 _ _ a) (h1 _ _ b)⟩ rfl (fun j y v e1 e2=>?_) (fun x c e=>?_) (fun vs H Q E q=>q.1) (fun vs H Q E q=>?_) fun A outer s' H' vs Q E hr uJ=>?_,Binds.all hb⟩
 ·cases j with
  | succ j=>cases j <;> cases e1
  | zero=>
    cases e1; cases e2
    obtain ⟨c,hc⟩:=h2 x (PySem.mem_of_lookup (S.fr x List.mem_cons_self))
    obtain ⟨m,_,hl⟩:=I.loc
    obtain ⟨u,ru,lk⟩:=hl _ x _ hN Qo (.inr (.inl AN))
    refine ⟨c,u,hc,?_,ru⟩
    rcases lk with ⟨z,_⟩ | ⟨_,c0,e0,yZ⟩
    ·unfold Env.kindOf at z
     rw [AN] at z; cases z
    ·rw [h1 x c hc] at e0; cases e0
     exact Ig (h1 x c hc) yZ
 ·obtain ⟨v,hv⟩:=I.cell x c (h1 x c e)
  exact ⟨v,Ig (h1 x c e) hv⟩
 ·obtain ⟨_,A',ds,d,al,hc,_⟩:=q
  exact bq _ _ hc.1
 ·obtain ⟨hl,A',ds,d,al,hc,hd,e,q⟩:=uJ
  exact ⟨_,gq _ A outer s' H' E hr,[],A',(ds ++ [Qn kds]).map some,d,Rel.Kb al (hd.app (.cons hc.2 .nil)),e,q⟩
end
section
variable {X:Cx} {O:List Nat}
def W2 (K:PySem.W.Frag) (O:List Nat) (g:DS->Option D):TE:=fun σ H Q=>∃ H0 U A0 δ d,Rel K O U A0 σ δ H /\ Fx H0 A0 U H /\ g δ=some d /\ ∀ v H',aA H0 H'->HD K (wo H' A0) v d->Q v H'
theorem Ke {k kk kc:Nat} {x pn y:Str} {GP:M3} {c P:Addr} {q:Str} {params:Arguments} {body:Expr} {scope:Scope} {pos p pos':Pos} {ps:List Str} {i:Nat} {gb:DS->Option D} (sc:Scope)
  (DP:Oh X.prog X.w X.K X.mg k (kc + 1) ps.length x pn GP) (hr:cy kk X.A) (hk:k<=kk) (hB:Gm X.mg X.base) (Qp:PySem.W.codeHdIn X.K c P=true) (m:(P,pos,q)∈b7) (S:Kc ps [y] scope)
  (gq:∀ (base:Heap) (f c':Addr) (cl:List (Str×Addr)) (A:Around) (outer:List Env) (s:Shared) (H:Hp) (E:XK),cy kc (A.deeper (PySem.W.envX q scope s.heap.objs.size f (.ref c') cl))->PE (AL mF X.prog X.w X.K X.mg base (ps ++ [y]) q scope f (.ref c') cl A outer s H E) body (tE X.K [] gb))
  (hb:∀ (name qual:Str) (cl:List (Str×Addr)) (pm cd ur:Value) (us:List Value),us.length=ps.length->bindArgs (PySem.W.kla_fn name qual params body scope cl pm cd ur) ⟨us,[]⟩=pure (ps.zip us))
  (hi:i∈O) (rK:X.env.code=.ref c) (hq:X.env.qual ++ Str.ofString "<lambda>"=q) (hN:X.N[i]?=some y) (e0:X.env.scope=sc) (AN:sc.names.lookup y=some .cell) (jn:∀ y∈scope.names,y.2=.free->sc.names.lookup y.1=some .cell)
  (E7:∀ x,X.fn x=true) (hd:defaultsOf params X.env=([],[])) (hg:Gl X x)
  (mT:(x == ("__debug__":Str))=false) (he:starEach [.Lambda params body scope pos] X.env=(false,eval (.Lambda params body scope pos) X.env) :: starEach [] X.env) (iH:(backTo pos' (starEach [] X.env)).any (·.1)=false):
  PE X (.Call (.Name x p) [.Lambda params body scope pos] [] pos') (W2 X.K O (Dx GP q i gb)):=by
 subst e0
 intro pins s σ H Q I ⟨H0,U,A0,δ,d,R,F,ed,q'⟩
 obtain ⟨kds,e1,e2⟩:=Dy ed
 obtain ⟨⟨f0,m0,kp⟩,DP⟩:=DP
 obtain ⟨l,o,W3,hU,ho,ow⟩:=R.ow i _ hi e1
 obtain ⟨aF,W4,kk,hv⟩:∃ aF,o=.dT aF /\ kds.map (·.1)=aF.map (fun p=>PyData.tuple (p.1.map jC)) /\ cj X.K (wo H (U ++ A0)) (aF.map (·.2)) (kds.map (·.2)):=by
  cases ow with
  | l8 k h=>exact ⟨_,rfl,k,h⟩
 subst W4
 obtain ⟨ob,I⟩:=I.freeze ho
 have W5:l∉A0:=F.out hU
 have hA:∀ b,b∈U.filter (fun z=>decide (z≠l)) ++ A0↔b∈U ++ A0 /\ b≠l:=fun b=>by
  rw [List.mem_append,List.mem_append,List.mem_filter,decide_eq_true_eq]
  constructor
  ·rintro (z | z)
   ·exact ⟨.inl z.1,z.2⟩
   ·exact ⟨.inr z,fun y=>W5 (y ▸ z)⟩
  ·rintro ⟨z | z,h⟩
   ·exact .inl ⟨z,h⟩
   ·exact .inr z
 obtain ⟨A',eA⟩:∃ A',A'=U.filter (fun z=>decide (z≠l)) ++ A0:=⟨_,rfl⟩
 rw [<- eA] at hA
 obtain ⟨H1,eH⟩:∃ H1,H1=upd H l (.n6 ob (.dT aF)):=⟨_,rfl⟩
 rw [<- eH] at I
 have el:∀ b,b≠l->H1 b=H b:=fun b hb=>by rw [eH,aB hb]
 have Lp:H1 l=some (.n6 ob (.dT aF)):=by rw [eH]; exact aZ
 have al:Ls A' H1:=⟨fun b hb=>by
   obtain ⟨z1,z2⟩:=(hA b).mp hb
   obtain ⟨o,e,w⟩:=R.al.1 b z1
   exact ⟨o,(el b z2).trans e,w⟩,fun p xs m=>by
   rw [eH]
   exact (R.al.2.1 p xs m).ne ((R.al.2.1 p xs m).apart ho True.intro),fun p y q m=>by
   rw [el p fun z=>?_]
   ·exact R.al.2.2 p y q m
   ·have t:=R.al.2.2 p y q m
    rw [z,ho] at t; cases t⟩
 have s3:aA (wo H (U ++ A0)) (wo H1 A'):=fun b o hb=>by
  obtain ⟨h1,h2⟩:=dQ hb
  have W6:b≠l:=fun z=>h1 (z ▸ List.mem_append_left _ hU)
  rw [aY fun z=>h1 ((hA b).mp z).1,el b W6]
  exact h2
 have s4:aA H0 H1:=fun b o hb=>by
  rw [el b fun z=>by rw [z,F.new l hU] at hb; cases hb]
  exact F.same _ _ hb
 have hP:H1 P=some (.lam pos q):=al.2.2 P pos q m
 obtain ⟨ps0,MZ,_⟩:=(show bN X.prog X.w H1 s.heap P (.lam pos q) from I.be P _ hP)
 obtain ⟨bm,W7,b1,b2,b3,b4,b5,b6⟩:=hB
 have xM:s.heap.Ns mainGlobals X.mg:=Ns.widen I.bk I.ok.mod.glob
 have Vf:∀ {a:Addr},(∀ o es ep,s.heap.get? a=some o->o.data≠.dict es ep)->a≠mainGlobals:=fun {a} h z=>by
  subst z
  obtain ⟨o,es,ep,e,d,_⟩:=xM
  exact h o es ep e d
 have Oi:=I.bk _ _ b3
 refine wpAny_Call_Name_kw (kL I hg m0 ?_ mT)
 refine PySem.W.callWith_K (h₀:=X.base) I.ok.mod.Hq kp ?_ he iH
 rw [he]
 show wpAny _ _ (spliced ((false,eval (.Lambda params body scope pos) X.env) :: backTo pos' (starEach [] X.env))) _ _ s
 refine Calls.spliced_cons (J8 I hd (fun y hy hf=>I.ok.has _ (.inl (jn y hy hf))) rK (PySem.W.codeHd_of_K I.kU Qp) hP hq ⟨bm,W7,b1,b2,Vf fun o es ep e z=>?_,fun z=>?_,Oi,b4,b5,b6⟩ (Ne.symm (Vf fun o es ep e z=>?_)) fun cl f c' ur s1 H2 h1 h2 I1 Oj hc hf W8 B8=>Calls.spliced_nil ⟨I1.kU,?_⟩)
 ·rw [Oi] at e; cases e; rw [b6] at z; cases z
 ·subst z
  rw [MZ] at Oi; cases Oi
  cases b6
 ·rw [MZ] at e; cases e; cases z
 ·have C:=Kd (k:=kc) (gb:=gb) (kds:=kds) I1 B8 hf W8 h1 h2 E7 S hN AN W3 (hb _ _ _ _ _ _) fun base=>gq base f c' cl
  obtain ⟨f1,fd,F1,m1,_,bi⟩:=DP (nT X s1 H2) f ⟨c',l,kds⟩ q _ (I1.ok.mod.widen fun _ _ e=>I1.wide e).Hq (I1.ok.mod.widen fun _ _ e=>I1.wide e).glob C
  rw [m0] at m1; cases m1
  have Vg:=al.same Oj
  have W9:c'∉A':=fun z=>by
   obtain ⟨o,e,w⟩:=Vg.1 c' z
   rw [hc] at e; cases e; exact w
  have Qq:l∉A':=fun z=>((hA l).mp z).2 rfl
  have sp:gW X.K 1 (GP f ⟨c',l,kds⟩ q (u6 gb kds)) [V.ref f] H2 Q E0:=⟨rfl,A',[gA f ⟨c',l,kds⟩ q],d,Vg,.cons (.fn (ob:=ob) (by rw [aY W9]; exact hc) (by rw [aY Qq]; exact Oj _ _ Lp) kk (hv.same (s3.trans (cC Oj)))) .nil,e2 f c' l,fun v H3 s5 h3=>q' v H3 (s4.trans (Oj.trans s5)) (h3.same (kg fun a ha=>by rw [eA]; exact List.mem_append_right _ ha))⟩
  refine wpAny_call (codeAny_mono (F1.run X.A X.stack s1 H2 ⟨[.ref f],[]⟩ [.ref f] [V.ref f] Q E0 (hr.mono hk) I1.Qk (bi s1 [.ref f] I1.kU rfl) (.cons rfl .nil) sp) fun r s' hq=>?_)
  cases r with
  | error e=>exact hq.elim
  | ok fl=>
    cases fl with
    | ret u=>exact I1.after hq
    | next=>exact False.elim hq
    | brk=>exact False.elim hq
    | cont=>exact False.elim hq
theorem Dz {xk:Str->Hp->Prop} {k kk kc:Nat} {x pn y:Str} {GP:M3} {c P:Addr} {q:Str} {params:Arguments} {body:Expr} {scope:Scope} {pos p pos' pr:Pos} {ps:List Str} {i:Nat} {gb:DS->Option D} (sc:Scope)
  (DP:Oh X.prog X.w X.K X.mg k (kc + 1) ps.length x pn GP) (hr:cy kk X.A) (hk:k<=kk) (hB:Gm X.mg X.base) (Qp:PySem.W.codeHdIn X.K c P=true) (m:(P,pos,q)∈b7) (S:Kc ps [y] scope)
  (gq:∀ (base:Heap) (f c':Addr) (cl:List (Str×Addr)) (A:Around) (outer:List Env) (s:Shared) (H:Hp) (E:XK),cy kc (A.deeper (PySem.W.envX q scope s.heap.objs.size f (.ref c') cl))->PE (AL mF X.prog X.w X.K X.mg base (ps ++ [y]) q scope f (.ref c') cl A outer s H E) body (tE X.K [] gb))
  (hb:∀ (name qual:Str) (cl:List (Str×Addr)) (pm cd ur:Value) (us:List Value),us.length=ps.length->bindArgs (PySem.W.kla_fn name qual params body scope cl pm cd ur) ⟨us,[]⟩=pure (ps.zip us))
  (hi:i∈O:=by decide) (rK:X.env.code=.ref c:=by rfl) (hq:X.env.qual ++ Str.ofString "<lambda>"=q:=by rfl) (hN:X.N[i]?=some y:=by rfl) (e0:X.env.scope=sc:=by rfl) (AN:sc.names.lookup y=some .cell:=by decide +kernel) (jn:∀ y∈scope.names,y.2=.free->sc.names.lookup y.1=some .cell:=by decide +kernel)
  (E7:∀ x,X.fn x=true:=by intro _; rfl) (hd:defaultsOf params X.env=([],[]):=by rfl) (hg:Gl X x:=by rfl)
  (mT:(x == ("__debug__":Str))=false:=by decide) (he:starEach [.Lambda params body scope pos] X.env=(false,eval (.Lambda params body scope pos) X.env) :: starEach [] X.env:=by rfl) (iH:(backTo pos' (starEach [] X.env)).any (·.1)=false:=by rfl):
  PS X (.Return (some (.Call (.Name x p) [.Lambda params body scope pos] [] pos')) pr) (tS X.K O (false,xk) (bT (Dx GP q i gb))):=
 (oG (Ke sc DP hr hk hB Qp m S gq hb hi rK hq hN e0 AN jn E7 hd hg mT he iH)).mono fun E σ H hh=>hh.e fun H0 U A0 δ r R F ed P=>by
  obtain ⟨d,e1,e2⟩:=bind1 ed
  cases e2
  refine ⟨H0,U,A0,δ,d,R,F,e1,fun v H' s h=>P.1 v H' ?_⟩
  unfold kh
  rw [if_neg Bool.false_ne_true]
  exact ⟨s,h⟩
end
def Ol (K:PySem.W.Frag) (mg:Str->Option Value) (x:Str) (st:Stmt) (ps:List Str) (c:Addr):Prop:=∃ f fd,j6 K x x st f fd /\ fd.code=.ref c /\ mg x=some (.ref f) /\ Binds K fd ps []
theorem Gp {P:Program} {w:World} {K:PySem.W.Frag} {mg:Str->Option Value} {base:Heap} {x:Str} {st:Stmt} {N ps:List Str} {k:Nat} {c:Addr} (O:List Nat) (g:DS->Option Res) (F:Ol K mg x st ps c) (S:aN N ps (ai st))
  (body:∀ (f:Addr) (A:Around) (outer:List Env) (s:Shared) (H:Hp) (E:XK),cy k (A.deeper (envOfC x (ai st) s.heap.objs.size f (.ref c)))->jy (gO mF P w K mg base N x (ai st) f (.ref c) A outer s H E).BG (cz st) (tS K O (false,fun _ _=>True) g))
  (hO:∀ i∈O,ps.length<=i:=by decide) {n m:Nat} (hN:N.length=n:=by rfl) (hP:ps.length=m:=by rfl):Dn P w K mg base (k + 1) x ps (gW K m (gQ n g)):=by
 subst hN hP
 obtain ⟨f,fd,F,hc,m,b⟩:=F
 have kp:=F.kp
 obtain ⟨oc,od,kV,doc,pm,an,bZ,ct,y6,rfl,lk,mO⟩:=F.ex
 cases (show bZ=.ref c from hc)
 refine ⟨f,_,BZ lk mO S (fun vs H Q E h=>h.1) fun A outer s H vs Q E hr h=>⟨_,(body f A outer s H E hr).BG,?_⟩,m,kp,b⟩
 obtain ⟨hn,A',ds,d,al,hd,e,q⟩:=h
 obtain ⟨r,e1,e2⟩:=bind1 e
 refine ⟨H,[],A',_,r,Rel.start al hd (fun i hi=>by have:=hO i hi; rw [<- hd.len,hn]; exact this),Fx.start al,e1,?_⟩
 cases r with
 | nx δ=>cases e2; exact fun U σ H' R F'=>q .gM H' F'.same .gM
 | rt d=>cases e2; exact ⟨fun v H' h=>by unfold kh at h; rw [if_neg Bool.false_ne_true] at h; exact q v H' h.1 h.2,fun _ _ _ _=>trivial⟩
 | bk _=>cases e2
 | ct _=>cases e2
theorem Kf {ts:List Addr} {p:Addr} {y:Pos} {q:Str} (h:(b7.all fun t=>ts.contains t.1)=true) (m:(p,y,q)∈b7):p∈ts:=by
 have:=List.all_eq_true.mp h _ m
 simpa using this
def u7 (K:PySem.W.Frag) (H0:Hp) (A0:List Addr) (v:V) (d:D) (l:List D) (H':Hp):Prop:=
 ∃ p r x ys,v=.ref p /\ aA H0 H' /\ H0 r=none /\ de H' p [x,.ref r] /\ H' r=some (.lst ys) /\ HD K (wo H' (r :: A0)) x d /\ cj K (wo H' (r :: A0)) ys l
def M4 (K:PySem.W.Frag) (n:Nat) (G:List D->Option (D×List D)):Sp:=fun vs H Q _=>vs.length=n /\ ∃ A ds d l,Ls A H /\ cj K (wo H A) vs ds /\ G ds=some (d,l) /\ ∀ v H',u7 K H A v d l H'->Q v H'
def Ih (K:PySem.W.Frag) (O:List Nat) (g:DS->Option (D×List D)):TS:=fun E σ H=>∃ H0 U A0 δ d l,Rel K O U A0 σ δ H /\ Fx H0 A0 U H /\ g δ=some (d,l) /\ ∀ v H',u7 K H0 A0 v d l H'->E.rt v H'
theorem Ih.e {K:PySem.W.Frag} {O:List Nat} {g:DS->Option (D×List D)}  {E:_} {σ:_} {H:_} {GG:Prop} (hh:Ih K O g E σ H) (kk:∀ H0 U A0 δ d l,(Rel K O U A0 σ δ H)->(Fx H0 A0 U H)->(g δ=some (d,l))->(∀ v H',u7 K H0 A0 v d l H'->E.rt v H')->GG):GG:=by obtain ⟨H0,U,A0,δ,d,l,x0,x1,x2,x3⟩:=hh; exact kk H0 U A0 δ d l x0 x1 x2 x3
def rL (a:DS->Option Res) (b:DS->Option (D×List D)):DS->Option (D×List D):=fun δ=>(a δ).bind fun r=>match r with
 | .nx δ'=>b δ'
 | _=>none
def DA (g:DS->Option D) (gl:DS->Option (List D)):DS->Option (D×List D):=fun δ=>(g δ).bind fun d=>(gl δ).bind fun l=>some (d,l)
def Ii (n:Nat) (g:DS->Option (D×List D)):List D->Option (D×List D):=fun ds=>g (ds.map some ++ List.replicate (n - ds.length) none)
section
variable {X:Cx} {O:List Nat} {st:Stmt} {rest:List Stmt} {ga:DS->Option Res} {gb:DS->Option (D×List D)} {e1 e2:Expr} {g:DS->Option D} {gl:DS->Option (List D)} {pos ik:Pos}
theorem sM (h1:PS X st (tS X.K O (false,fun _ _=>True) ga)) (h2:jy X rest (Ih X.K O gb)):jy X (st :: rest) (Ih X.K O (rL ga gb)):=(oF h1 h2).mono fun E σ H hh=>hh.e fun H0 U A0 δ d l R F ed P=>by
 obtain ⟨r,e1,e2⟩:=bind1 ed
 cases r with
 | nx δ'=>exact ⟨H0,U,A0,δ,_,R,F,e1,fun U' cb H' R' F'=>⟨H0,U',A0,δ',d,l,R',F',e2,P⟩⟩
 | _=>cases e2
theorem DB (h1:PS X st (Ih X.K O gb)):jy X [st] (Ih X.K O gb):=(oF h1 y0).mono fun E σ H hh=>hh.e fun H0 U A0 δ d l R F ed P=>⟨H0,U,A0,δ,d,l,R,F,ed,P⟩
theorem Gq {x1} (h1:PE X e1 (tE X.K O g)) (h2:PE X e2 (tN X.K O gl)) (hs:starEach [e1,e2] X.env=(false,eval e1 X.env) :: starEach [e2] X.env:=by rfl) (kb:starEach [e2] X.env=(false,eval e2 X.env) :: starEach [] X.env:=by rfl):
  PS X (.Return (some (.Tuple [e1,e2] x1 ik)) pos) (Ih X.K O (DA g gl)):=(oG (BW (bg h1 (bg h2 cn kb) hs))).mono fun E σ H hh=>hh.e fun H0 U A0 δ d l R F ed P=>by
 obtain ⟨d',e1,e2⟩:=bind1 ed
 obtain ⟨l',e3,e4⟩:=bind1 e2
 cases e4
 refine ⟨U,A0,δ,d,R,e1,fun v H1 s1 hv=>⟨U,A0,δ,l,R.same s1,e3,fun r ys H2 s2 hr h2 h3=>⟨by show 2<=sizeLine; decide,fun p hp=>P _ _ ?_⟩⟩⟩
 have hrp:r≠p:=fun z=>by rw [z,hp] at h2; cases h2
 have s3:=bG hp (HO.tup [v,.ref r])
 refine ⟨p,r,v,ys,rfl,F.same.trans (s1.trans (s2.trans s3)),F.same.free (s1.free hr),.inl aZ,s3 _ _ h2,hv.same fun b o hb=>?_,h3.same fun b o hb=>?_⟩
 ·obtain ⟨z1,z2⟩:=dQ hb
  rw [aY fun z=>?_]
  ·exact s3 _ _ (s2 _ _ z2)
  ·rcases List.mem_cons.mp z with y | y
   ·rw [y,hr] at z2; cases z2
   ·exact z1 (List.mem_append_right _ y)
 ·obtain ⟨z1,z2⟩:=dQ hb
  rw [aY fun z=>?_]
  ·exact s3 _ _ z2
  ·rcases List.mem_cons.mp z with y | y
   ·exact z1 (by rw [y]; exact List.mem_cons_self)
   ·exact z1 (List.mem_cons_of_mem _ (List.mem_append_right _ y))
end
section
variable {P:Program} {w:World} {K:PySem.W.Frag} {mg:Str->Option Value} {base:Heap} {x:Str} {st:Stmt} {N ps:List Str} {k:Nat}
theorem Gr (O:List Nat) (g:DS->Option (D×List D)) (F:Df K mg x st ps) (S:aN N ps (ai st))
  (body:∀ (f:Addr) (bZ:Value) (A:Around) (outer:List Env) (s:Shared) (H:Hp) (E:XK),cy k (A.deeper (envOfC x (ai st) s.heap.objs.size f bZ))->jy (gO mF P w K mg base N x (ai st) f bZ A outer s H E).BG (cz st) (Ih K O g))
  (hO:∀ i∈O,ps.length<=i:=by decide) {n m:Nat} (hN:N.length=n:=by rfl) (hP:ps.length=m:=by rfl):Dn P w K mg base (k + 1) x ps (M4 K m (Ii n g)):=by
 subst hN hP
 refine F.ok S (fun vs H Q E h=>h.1) (fun f bZ A outer s H vs Q E hr h=>⟨_,body f bZ A outer s H E hr,?_⟩)
 obtain ⟨hn,A',ds,d,l,al,hd,e,q⟩:=h
 exact ⟨H,[],A',_,d,l,Rel.start al hd (fun i hi=>by have:=hO i hi; rw [<- hd.len,hn]; exact this),Fx.start al,e,q⟩
end
def Vh (p:D×List D):D:=.tuple [p.1,.list p.2]
theorem u7.hd {K:PySem.W.Frag} {H H':Hp} {A B:List Addr} {v:V} {d:D} {l:List D} (h:u7 K H B v d l H') (al:Ls A H) (h1:∀ {r:Addr} {x:V},HD K (wo H' (r :: B)) x d->HD K (wo (wo H' (r :: B)) A) x d) (h2:∀ {r:Addr} {ys:List V},cj K (wo H' (r :: B)) ys l->cj K (wo (wo H' (r :: B)) A) ys l):HD K (wo H' A) v (Vh (d,l)):=by
 obtain ⟨p,r,x,ys,rfl,sm,hr,ht,hl,hx,hy⟩:=h
 have Xa:r∉A:=al.free hr
 have sub:aA (wo (wo H' (r :: B)) A) (wo H' A):=fun b o hb=>by
  obtain ⟨z1,z2⟩:=dQ hb
  rw [aY z1]
  exact (dQ z2).2
 exact .tup (FK ht (al.same sm)) (.cons ((h1 hx).same sub) (.cons (.lst (.of (by rw [aY Xa]; exact hl)) ((h2 hy).same sub)) .nil))
def pB (G:List D->Option (D×List D)) (n:Nat) (g:DS->Option (List D)):DS->Option (D×List D):=fun δ=>(g δ).bind fun ds=>if ds.length=n then G ds else none
def M5 (g:DS->Option (D×List D)):DS->Option D:=fun δ=>(g δ).map Vh
section
variable {X:Cx} {O:List Nat} {fr:Fr} {e:Expr} {es:List Expr} {gr:DS->Option (List D)} {pos p:Pos} {n k kk:Nat} {x:Str} {ps:List Str} {G:List D->Option (D×List D)}
set_option tactic.hygienic true in
theorem DC (F:Dn X.prog X.w X.K X.mg X.base k x ps (M4 X.K n G)) (hr:cy kk X.A) (hk:k<=kk) (ha:PA X (e :: es) (rh X.K O gr)) (hg:Gl X x:=by rfl)
  (mT:(x == ("__debug__":Str))=false:=by decide) (he:starEach (e :: es) X.env=(false,eval e X.env) :: starEach es X.env:=by rfl) (iH:(backTo pos (starEach es X.env)).any (·.1)=false:=by rfl):
  PE X (.Call (.Name x p) (e :: es) [] pos) (tE X.K O (M5 (pB G n gr))):=(Cj F hr hk ha hg mT he iH).mono fun σ H Q hh=>hh.e fun U A0 δ d R ed q=>by
 unfold M5 at ed
 cases eg:pB G n gr δ with
 | none=>rw [eg] at ed; cases ed
 | some pr=>
   rw [eg] at ed
   cases ed
   obtain ⟨ds,e1,e2⟩:=bind1 eg
   split at e2
   ·rename_i hn
    refine ⟨U,A0,δ,ds,R,e1,fun vs H' s h=>?_⟩
    show M4 X.K n G (vs ++ []) H' Q E0
    rw [List.append_nil]
    refine ⟨by rw [h.len]; exact hn,U ++ A0,ds,pr.1,pr.2,(R.same s).al,h,e2,fun v H2 h2=>?_⟩
    have Vi:∀ {r:Addr},aA (wo H2 (r :: (U ++ A0))) (wo (wo H2 (r :: (U ++ A0))) (U ++ A0)):=fun {r} b o hb=>by
     rw [aY fun z=>(dQ hb).1 (List.mem_cons_of_mem _ z)]
     exact hb
    exact q v H2 (s.trans (by obtain ⟨_,_,_,_,_,z,_⟩:=h2; exact z)) (h2.hd (R.same s).al (fun h=>h.same Vi) fun h=>h.same Vi)
   ·cases e2
end
abbrev Gs:D->D->Option D:=dI fun i j=>.int (Builtin.bitAnd i j)
section
variable {prog:Program} {w:World} {A:Around} {E:Value->Shared->Prop} {s:Shared}
end
section
variable {X:Cx} {O:List Nat} {tg a:Expr} {gr:DS->Option (List D)} {p1 p2 q1 q2:Pos} {ta:TA}
end
section
variable {X:Cx} {O:List Nat} {gk gd:DS->Option D} {i o:Expr} {pos:Pos}
set_option tactic.hygienic true in
theorem xN (hu:X.A.units + 1 < cLine) (hi:PE X i (gU X.K O gk)) (ho:PE X o (gU X.K O gd)) (hm:behindInMarks .NotIn o=false:=by rfl):PT X (.Compare i [.NotIn] [o] pos) (tT X.K O (gB (Ge false gk gd))):=
 (IE (Ag hu hi ho) hm).mono fun σ H Q hh=>hh.e fun U A0 δ b R ed q=>by
 obtain ⟨d,e0,Xb⟩:=bind1 ed
 obtain ⟨y,e1,e2⟩:=bind1 e0
 obtain ⟨x,e3,e4⟩:=bind1 e2
 refine ⟨U,A0,δ,y,R,e1,fun v H1 s1 h1=>⟨U,A0,δ,x,R.same s1,e3,fun v2 H2 s2 h2=>?_⟩⟩
 cases x with
 | dict kds=>
   have e4:(if rg kds=true then none else (keyOf y).bind fun k=>some (PyData.bool ((bz kds k).isSome == false)))=some d:=e4
   split at e4
   ·cases e4
   rename_i hf
   have hf:=Bool.eq_false_iff.mpr hf
   obtain ⟨k,e5,e6⟩:=bind1 e4
   cases e6
   obtain ⟨a,aF,rfl,ha,dk⟩:=h2.dk hf
   obtain ⟨b,rfl,hb⟩:=(h1.same s2).key e5
   cases Xb
   refine ⟨a,_,rfl,l5.t ha hb,_,rfl,?_⟩
   have q:=q H2 (s1.trans s2)
   rw [<- dk.U7 k,beq_false] at q
   exact q
 | _=>cases e4
end
theorem zu {β:Type}:∀ {l:List (Addr×β)} {p:Addr} {x:β},l.lookup p=some x->(p,x)∈l
 | [],_,_,h=>by cases h
 | (q,y) :: l,p,x,h=>by
   rw [List.lookup_cons] at h
   by_cases e:p=q
   ·subst e
    rw [beq_self_eq_true] at h
    cases h
    exact List.mem_cons_self
   ·rw [show (p == q)=false by simpa using e] at h
    exact List.mem_cons_of_mem _ (zu h)
structure u9 (K:PySem.W.Frag):Prop where
 one:∀ p y q,(p,y,q)∈b7->b7.lookup p=some (y,q)
 out:∀ p y q,(p,y,q)∈b7->K.lookup p=none /\ ∃ c,PySem.W.codeHdIn K c p=true
def Hl:Hp:=fun b=>(b7.lookup b).map fun t=>HO.lam t.1 t.2
theorem jL {b:Addr} {o:HO} (h:Hl b=some o):∃ y q,o=.lam y q /\ (b,y,q)∈b7:=by
 unfold Hl at h
 cases e:b7.lookup b with
 | none=>rw [e] at h; cases h
 | some t=>rw [e] at h; cases h; exact ⟨t.1,t.2,rfl,zu e⟩
theorem AO {P:Program} {w:World} {K:PySem.W.Frag} {mg mb:Str->Option Value} {k:Nat} {fa a:Addr} {fd:FuncData} {x:Str} {sp:Sp} {bf:Shared} {vs:List Value} {ns:List Int} (C:u9 K)
  (KX:K.In bf.heap) (hT:∀ p y q,(p,y,q)∈b7->bf.heap.get? p=some (PySem.W.tabObj #[])) (xM:bf.heap.Ns mainGlobals mg) (hb:bf.heap.Ns builtinsNs mb) (Qm:∀ x:Str,x≠"__name__"->mb x=bootBuiltins x) (Qr:bf.heap.NoLimit) (Xc:Gm mg bf.heap) (hg:bf.gens=#[])
  (ha:bf.heap.get? a=some { cls:=.type "list",data:=.seq vs.toArray }) (hi:IntsAre vs ns) (hl:ns.length<=sizeLine) (hr:cy k callerA)
  (F:∀ base:Heap,K.In base->base.Ns mainGlobals mg->Gm mg base->lb P w K mg base mF k fa fd [x] sp) (M6:∀ (s:Shared) (u:Value),BindsTo s fd ⟨[u],[]⟩ [(x,u)])
  (uJ:∀ H:Hp,wK K H a (ns.map V.int)->(∀ p y q,(p,y,q)∈b7->H p=some (.lam y q))->sp [.ref a] H (fun v H'=>v=.bl true /\ aA H H') fun _ _ _=>False):
  codeAny (model P w) callerA (.call (.ref fa) ⟨[.ref a],[]⟩) (fun r s'=>r=.ok (.ret (.bool true)) /\ OldK bf.heap s'.heap /\ s'.os=bf.os /\ AllBare s'.gens) bf:=by
 have rv:=qZ hi
 have Qs:=hi.length
 have tab:∀ p y q,(p,y,q)∈b7->isCodeTable bf.heap p:=fun p y q m=>by
  obtain ⟨_,c,hc⟩:=C.out p y q m
  obtain ⟨o,vs,_,_,_,_,_,_,_,h1,h2,h3,h4,_⟩:=PySem.W.codeHd_of_K KX hc
  exact ⟨c,o,vs,h1,h2,h3,h4⟩
 have core:∀ H:Hp,(∀ b o,H b=some o->(∃ ob u,o=.n6 ob u /\ ∀ es ep,ob.data≠.dict es ep /\ ob.data≠.plain) \/ ∃ y q,o=.lam y q /\ (b,y,q)∈b7)->wK K H a (ns.map V.int)->j8 P w H bf.heap->(∀ p y q,(p,y,q)∈b7->H p=some (.lam y q))->(∀ b,H b≠none->K.lookup b=none)->
   codeAny (model P w) callerA (.call (.ref fa) ⟨[.ref a],[]⟩) (fun r s'=>r=.ok (.ret (.bool true)) /\ OldK bf.heap s'.heap /\ s'.os=bf.os /\ AllBare s'.gens) bf:=by
  intro H hO hS be hL hK
  have dat:∀ {b:Addr} {o:Obj} {u:HO},H b=some u->bf.heap.get? b=some o->(∀ es ep,o.data≠.dict es ep) /\ o.data≠.plain:=fun {b o u} e h=>by
   rcases hO b u e with ⟨ob,z,rfl,hd⟩ | ⟨y,q,rfl,m⟩
   ·obtain ⟨e1,_⟩:=be b _ e
    rw [h] at e1; cases e1
    exact ⟨fun es ep=>(hd es ep).1,(hd #[] 0).2⟩
   ·rw [hT b y q m] at h; cases h
    exact ⟨fun es ep z=>(by cases z),fun z=>(by cases z)⟩
  have Fj:∀ {b:Addr} {o:Obj} {es:Array DictEntry} {ep:Nat},bf.heap.get? b=some o->o.data=.dict es ep->H b=none:=fun {b o es ep} e d=>by
   cases q:H b with
   | none=>rfl
   | some u=>exact absurd d ((dat q e).1 es ep)
  have Om:∀ {b:Addr} {m:Str->Option Value},bf.heap.Ns b m->(qg bf.heap H).Ns b m:=fun {b m} ⟨o,es,ep,e,d,r⟩=>⟨o,es,ep,lS e (Fj e d),d,r⟩
  have Vj:K.In (qg bf.heap H):=fun b o e=>by
   refine lS (KX b o e) ?_
   cases q:H b with
   | none=>rfl
   | some u=>rw [hK b (by rw [q]; simp)] at e; cases e
  have Xd:Gm mg (qg bf.heap H):=by
   obtain ⟨bm,ob,b1,b2,b3,b4,b5,b6⟩:=Xc
   refine ⟨bm,ob,b1,b2,lS b3 ?_,b4,b5,b6⟩
   cases q:H bm with
   | none=>rfl
   | some u=>exact absurd b6 (dat q b3).2
  have hM:Mod K mg (qg bf.heap H):=⟨Vj,Om xM,⟨mb,Om hb,Qm⟩,let ⟨mc,h1,h2⟩:=Qr; ⟨mc,Om h1,h2⟩⟩
  have e0:w9 P w K mg (qg bf.heap H) callerA [] bf H:=⟨rfl,hM,fun b o e=>yX e,Nat.le_of_eq (qP _ _),trivial,fun b hb=>absurd (show b∈([]:List Addr) from hb) (by simp),be,.of_eq hg⟩
  refine codeAny_mono ((F _ Vj (Om xM) Xd).run callerA [] bf H ⟨[.ref a],[]⟩ [.ref a] [.ref a] _ _ hr e0 (M6 bf (.ref a)) (.cons rfl .nil) (uJ H hS hL)) fun r s' h=>?_
  cases r with
  | error e=>exact h.elim
  | ok fl=>
    cases fl with
    | next=>exact False.elim h
    | brk=>exact False.elim h
    | cont=>exact False.elim h
    | ret u=>
      obtain ⟨v,H',os,bare,un,M7,r',rfl,sm⟩:=h
      obtain rfl:u=Value.bool true:=r'
      have Xe:∀ b o,bf.heap.get? b=some o->asItWas bf.heap s'.heap b o:=fun b o e=>by
       cases q:H b with
       | none=>exact .inl (un.keep b o e q (by intro z; exact absurd (show b∈([]:List Addr) from z) (by simp)) (by simp))
       | some u=>
         rcases hO b u q with ⟨ob,z,rfl,_⟩ | ⟨y,q',rfl,m⟩
         ·obtain ⟨e1,_⟩:=be b _ q
          obtain ⟨e2,_⟩:=M7 b _ (un.lR b ob _ q)
          rw [e] at e1; cases e1
          exact .inl e2
         ·rw [hT b y q' m] at e; cases e
          obtain ⟨ps,e2,_⟩:=(show bN P w H' s'.heap b (.lam y q') from M7 b _ (sm _ _ q))
          exact .inr (.inl ⟨tab b y q' m,rfl,#[],ps,rfl,by rw [e2,Array.empty_append]⟩)
      exact ⟨rfl,⟨Xe,fun b o e=>un.there b o e (by simp)⟩,os,bare⟩
 have Vk:∀ (H:Hp) b y q,(b,y,q)∈b7->bN P w H bf.heap b (.lam y q):=fun H b y q m=>⟨#[],hT b y q m,trivial,.inl rfl⟩
 have Qt:∀ p y q,(p,y,q)∈b7->Hl p=some (.lam y q):=fun p y q m=>by unfold Hl; rw [C.one p y q m]; rfl
 have M8:Hl a=none:=by
  cases q:Hl a with
  | none=>rfl
  | some o=>
    obtain ⟨y,q',rfl,m⟩:=jL q
    have:=hT a y q' m
    rw [ha] at this; cases this
 cases hk:K.lookup a with
 | some o=>
   have e:=KX a o hk
   rw [ha] at e
   cases e
   refine core Hl (fun b o z=>.inr (jL z)) (.inr ⟨vs,_,hk,by rw [Qs]; exact hl,rv⟩) (fun b u z=>?_) Qt fun b z=>?_
   ·obtain ⟨y,q,rfl,m⟩:=jL z
    exact Vk _ b y q m
   ·cases q:Hl b with
    | none=>exact absurd q z
    | some o=>
      obtain ⟨y,q',rfl,m⟩:=jL q
      exact (C.out b y q' m).1
 | none=>
   refine core (fun b=>if b=a then some (.n6 { cls:=.type "list",data:=.seq vs.toArray } (.lst (ns.map V.int))) else Hl b) (fun b o z=>?_) (.inl (.inr ⟨{ cls:=.type "list",data:=.seq vs.toArray },if_pos rfl⟩)) (fun b u z=>?_) (fun p y q m=>?_) fun b z=>?_
   ·by_cases hb:b=a
    ·have z':=(if_pos hb).symm.trans z
     cases z'
     exact .inl ⟨_,_,rfl,fun es ep=>⟨fun y=>(by cases y),fun y=>(by cases y)⟩⟩
    ·exact .inr (jL ((if_neg hb).symm.trans z))
   ·by_cases hb:b=a
    ·have z':=(if_pos hb).symm.trans z
     cases z'
     subst hb
     exact ⟨ha,by rw [List.length_map]; exact hl,vs,_,rv,ha⟩
    ·obtain ⟨y,q,rfl,m⟩:=jL ((if_neg hb).symm.trans z)
     exact Vk _ b y q m
   ·have hb:p≠a:=fun e=>by have:=Qt p y q m; rw [e,M8] at this; cases this
    exact (if_neg hb).trans (Qt p y q m)
   ·by_cases hb:b=a
    ·subst hb; exact hk
    ·cases q:Hl b with
     | none=>exact absurd ((if_neg hb).trans q) z
     | some o=>
       obtain ⟨y,q',rfl,m⟩:=jL q
       exact (C.out b y q' m).1
theorem DD {l:PySem.W.OpenLaw} {n k:Nat} {q:Program} {loose:List Str} {XP:(Str->Option Value)->Heap->Prop} {YP:World->Heap->Prop} {d:DefRec} {K:Params->PySem.W.Frag} {sp:World->Sp} {x:Str}
  (hn:l.most=some n) (Vl:n<=sizeLine) (Md:d.params.defaults=[]) (hr:cy k callerA) (hY:∀ (w:World) (h:Heap),YP w h->(K w.params).In h /\ ∀ p y q,(p,y,q)∈b7->h.get? p=some (PySem.W.tabObj #[]))
  (F:∀ (w:World) (mg:Str->Option Value) (fa:Addr) (h:Heap),(K w.params).In h->h.Ns mainGlobals mg->mg d.name=some (.ref fa)->u9 (K w.params) /\
   ∃ fd:FuncData,(∀ (s:Shared) (u:Value),BindsTo s fd ⟨[u],[]⟩ [(x,u)]) /\ ∀ base:Heap,(K w.params).In base->base.Ns mainGlobals mg->Gm mg base->lb l.prog w (K w.params) mg base mF k fa fd [x] (sp w))
  (uJ:∀ (w:World) (H:Hp) (a:Addr) (ns:List Int),ns.length<=n->wK (K w.params) H a (ns.map V.int)->(∀ p y q,(p,y,q)∈b7->H p=some (.lam y q))->sp w [.ref a] H (fun v H'=>v=.bl true /\ aA H H') fun _ _ _=>False):
  PySem.W.WalkO q loose XP YP l.row.toRowW d [] (fun f vs=>PySem.call f vs):=by
 refine UI.uL hn Md fun w fm bf mg mb fa o pm cd doc a vs ns G Y ho hd mO Me B8 hints hlen hg=>?_
 obtain ⟨KX,KT⟩:=hY w _ Y
 obtain ⟨C,fd,hb,hF⟩:=F w mg fa _ KX G.T.g Me
 exact AO C KX KT G.T.g G.T.b G.T.builtins G.T.nolimit G.T.bmain hg B8 hints (Nat.le_trans hlen Vl) hr hF hb (fun H hS hT=>uJ w H a ns hlen hS hT)
section
variable {X:Cx} {O:List Nat} {tg e o y:Expr} {ge go:DS->Option D} {apos dO:Pos}
theorem HD.text {K:PySem.W.Frag} {H:Hp} {v:V} {x:Str} (h:HD K H v (.str x)):v=.str x:=by cases h; rfl
theorem fY.text {K:PySem.W.Frag} {A:List Addr} {H:Hp} {v:V} {x:Str} (h:fY K A H v (.str x)):v=.str x:=by
 rcases h with h | ⟨l,o,rfl,e,q⟩
 ·exact h.text
 ·cases q
def sN:List D->Option (List Str)
 | []=>some []
 | .str x :: l=>(sN l).map (x :: ·)
 | _ :: _=>none
theorem nU:∀ {l:List D} {ns:List Str},sN l=some ns->l=ns.map .str
 | [],_,h=>by cases h; rfl
 | d :: l,ns,h=>by
   cases d with
   | str x=>
     rw [sN] at h
     obtain ⟨r,hr,rfl⟩:=Option.map_eq_some_iff.mp h
     rw [List.map_cons,nU hr]
   | _=>cases h
theorem cj.toTexts {K:PySem.W.Frag} {H:Hp}:∀ {ns:List Str} {xs:List V},cj K H xs (ns.map .str)->xs=ns.map .str
 | [],_,h=>by rw [List.map_nil] at h; cases h; rfl
 | n :: ns,_,h=>by
   rw [List.map_cons] at h
   cases h with
   | cons a t=>rw [a.text,cj.toTexts t]; rfl
theorem pC:∀ {ns:List Str} {us:List Value},a4 (ns.map V.str) us->∃ l:List (Str×Tok),us=strValues l /\ l.map (·.1)=ns
 | [],_,r=>by rw [List.map_nil] at r; cases r; exact ⟨[],rfl,rfl⟩
 | n :: ns,_,r=>by
   rw [List.map_cons] at r
   cases r with
   | cons h t=>
     obtain ⟨k,rfl⟩:=h
     obtain ⟨l,rfl,e⟩:=pC t
     exact ⟨(n,k) :: l,rfl,by rw [List.map_cons,e]⟩
def rJoin (K:PySem.W.Frag):V->List V->Hp->VK->Prop:=fun x vs H Q=>∃ sep p ns,x=.str sep /\ vs=[.ref p] /\ gN K H p (ns.map V.str) /\ JoinOk sep ns=true /\ Q (.str (Txt.join sep ns)) H
theorem Gu:O1 X "str.join" (rJoin X.K):=by
 intro pins s σ H x vs v us Q I rx rv h
 obtain ⟨sep,p,ns,rfl,rfl,hq,hj,q⟩:=h
 obtain ⟨t,rfl⟩:=rx
 obtain ⟨u,rfl,ru⟩:=vals1 rv
 cases ru
 obtain ⟨its,r',pl,hz⟩:=I.list hq
 obtain ⟨l,rfl,hl⟩:=pC r'
 exact SC.join pl.isList hl hj fun t' k=>⟨.str _,H,I.tok _,⟨_,rfl⟩,q⟩
def vb (go ge:DS->Option D):DS->Option D:=fun δ=>(go δ).bind fun s=>(ge δ).bind fun x=>match s,x with
 | .str sep,.list l=>(sN l).bind fun ns=>if JoinOk sep ns=true then some (.str (Txt.join sep ns)) else none
 | _,_=>none
set_option tactic.hygienic true in
theorem Gv (ho:PE X o (gU X.K O go)) (he:PE X e (tE X.K O ge)) (B5:attributeBase o "join" X.env (eval o X.env)=eval o X.env:=by rfl)
  (Jj:((backTo dO (starEach [e] X.env)).all (fun x=> !x.1) && (backToKw dO (keywordEach [] X.env)).all (fun x=>x.1.isSome) && decide ([e].length + ([]:List Keyword).length + (if ([]:List Keyword).isEmpty then 0 else 1) < 30))=true:=by rfl)
  (B6:(apos.endLine == dO.line)=true:=by rfl) (hs:starEach [e] X.env=[(false,eval e X.env)]:=by rfl) (CL:starEach ([]:List Expr) X.env=[]:=by rfl):
  PE X (.Call (.Attribute o "join" apos) [e] [] dO) (tE X.K O (vb go ge)):=
 (lX PySem.F.plainAttrs_str PySem.F.slot_str_join PySem.F.type_str_join Gu ho (bg he cn (by rw [hs,CL])) B5 Jj B6 (by rw [hs,CL]) (by rw [CL]; rfl)).mono fun σ H Q hh=>hh.e fun U A0 δ d R ed q=>by
  obtain ⟨s,e1,ed⟩:=bind1 ed
  obtain ⟨x,e2,ed⟩:=bind1 ed
  cases s with
  | str sep=>
    cases x with
    | list l=>
      obtain ⟨ns,e3,ed⟩:=bind1 ed
      split at ed
      ·rename_i hj
       cases ed
       refine ⟨U,A0,δ,_,R,e1,fun v H1 s1 h1=>?_⟩
       rw [h1.text]
       refine ⟨rfl,U,A0,δ,_,R.same s1,e2,fun w H2 s2 h2=>?_⟩
       cases h2 with
       | lst hq h=>
         rw [nU e3] at h
         rw [h.toTexts] at hq
         exact ⟨sep,_,ns,rfl,rfl,(hq.same bq).sq,hj,q _ H2 (s1.trans s2) (.str _)⟩
      ·cases ed
    | _=>cases ed
  | _=>cases ed
end
end L2
namespace L2
open PySem PySem.Spec PySem.W PyProof.Rows
theorem qt:entryFor table "proto.unchain"=some Builtin.«proto.unchain»:=entryFor_of_fast (by kernel_rfl)
section
variable {prog:Program} {w:World} {A:Around} {E:Value->Shared->Prop} {s:Shared}
theorem sP {x:Addr} {ox:Obj} {fs:Array Value} {e:Value} {Q:Value->Shared->Prop} (ho:s.heap.get? x=some ox) (hd:ox.data=.fields fs) (h2:fs[2]?=some Value.none) (hQ:Q .none s):
  wpAny (model prog w) A (runValue (.builtin "proto.unchain" ⟨[e,.ref x,.ref x,.bool false],[]⟩)) Q E s:=by
 refine wpAny_runValue (codeAny_builtin qt ?_)
 unfold Builtin.«proto.unchain»
 show wpAny _ _ (field (.ref x) 2 >>= _) _ _ s
 refine wpAny_bind (wpAny_field ho hd h2 ?_)
 exact wpAny_pure hQ
theorem vc {α:Type} {a x:Addr} {ox oa:Obj} {fs va:Array Value} {Q:α->Shared->Prop} (hh:A.handled=some (.ref x)) (el:x≠a) (ho:s.heap.get? x=some ox) (hd:ox.data=.fields fs) (h2:fs[2]?=some Value.none)
  (Vm:s.heap.get? a=some oa) (Xf:oa.data=.fields va) (hsz:2 < va.size) (hE:E (.ref a) { s with heap:=s.heap.update a (Obj.mapFields (·.setIfInBounds 2 (.ref x))) }):
  wpAny (model prog w) A (raiseNew (α:=α) (.ref a)) Q E s:=by
 unfold raiseNew
 refine wpAny_bind (wpAny_handled ?_)
 rw [hh]
 have hb:(Value.ref x != Value.ref a)=true:=bne_iff_ne.mpr fun e=>el (Value.ref.inj e)
 show wpAny _ _ (if (Value.ref x != Value.ref a)=true then _ else _) _ _ s
 rw [if_pos hb]
 refine wpAny_bind (wpAny_holding (sP ho hd h2 ?_))
 refine wpAny_bind ?_
 unfold updateField
 refine wpAny_bind (wpAny_load Vm ?_)
 rw [Xf]
 dsimp only
 rw [if_pos hsz]
 refine wpAny_update Vm ?_
 exact wpAny_throw hE
theorem qu {it x:Addr} {ox:Obj} {fs:Array Value} {y left step:Int} {Q:Option Value->Shared->Prop} (hh:A.handled=some (.ref x)) (ho:s.heap.get? x=some ox) (hd:ox.data=.fields fs) (h2:fs[2]?=some Value.none)
  (hit:IsRangeIter s.heap it y left step) (M9:left<=0) (hQ:∀ h',Heap.ExtBut it s.heap h'->Q none { s with heap:=h' }):wpAny (model prog w) A (pyNext (.ref it)) Q E s:=by
 have hT:s.TypeIs (.ref it) "range_iterator":=⟨_,hit,rfl⟩
 unfold pyNext
 refine wpAny_bind (wpAny_attempt (wpAny_callSpecial?_slot (name:=Str.ofString "__next__") hT F.slot_range_iterator_next
  (wpAny_call_entry F.slot_range_iterator_next hT F.entry_range_iterator_next ?_ (F.args_range_iterator_next_1 _))))
 show wpAny _ _ (field (.ref it) 0 >>= _) _ _ s
 refine wpAny_bind (wpAny_field hit rfl (x:=rawInt y) rfl ?_)
 show wpAny _ _ (field (.ref it) 1 >>= _) _ _ s
 refine wpAny_bind (wpAny_field hit rfl (x:=rawInt left) rfl ?_)
 show wpAny _ _ (field (.ref it) 2 >>= _) _ _ s
 refine wpAny_bind (wpAny_field hit rfl (x:=rawInt step) rfl ?_)
 show wpAny _ _ (if left<=0 then _ else _) _ _ s
 rw [if_pos M9]
 refine wpAny_bind (wpAny_rule ?_)
 refine wpAny_bind ?_
 show wpAny _ _ (newExc (.type "StopIteration") [] >>= _) _ _ _
 refine wpAny_bind ?_
 simp only [newExc,newTuple]
 refine wpAny_bind (wpAny_newObj_type ?_ (by size_fits))
 refine wpAny_bind (m:=firstArgMember _ _) (wpAny_of_eq (a:=Value.none) (by first | rfl | (simp only [firstArgMember]; rfl)) ?_)
 refine wpAny_newObj_type ?_ (by size_fits)
 have hx:x < s.heap.objs.size:=Heap.lt_size ho
 refine vc (x:=x) hh ?_ (Heap.get?_push_of_some _ (Heap.get?_push_of_some _ ho)) hd h2 (Heap.get?_push_size _ rfl) rfl (by rw [Array.size_append]; exact Nat.lt_of_lt_of_le (show 2 < 6 by decide) (Nat.le_add_right _ _)) ?_
 ·intro e
  rw [e] at hx
  have:s.heap.objs.size<=(s.heap.push { cls:=.type "tuple",data:=.seq [].toArray }).objs.size:=by simp [Heap.push]
  exact absurd (Nat.lt_of_lt_of_le hx this) (Nat.lt_irrefl _)
 ·refine wpAny_bind (wpAny_isInstance (T:="StopIteration") (b:=true) ⟨_,Heap.get?_update_self _ (Heap.get?_push_size _ rfl) ?_,?_⟩ isSubtype_stop ?_)
  ·exact Obj.isFreed_of_fields (Obj.data_mapFields rfl _)
  ·exact (Obj.cls_mapFields ..).trans rfl
  ·refine wpAny_pure (hQ _ fun b o hb e=>?_)
   have e2:=Heap.get?_push_of_some { cls:=.type "tuple",data:=.seq [].toArray } e
   refine (((Heap.SameBut.update ..).2 b ?_).trans (Heap.get?_push_of_some _ e2))
   intro z
   have:=Heap.lt_size e2
   rw [z] at this
   exact absurd this (Nat.lt_irrefl _)
end
end L2
namespace L2
open PySem
def Xg (M:Model) (Γ:Ctx) (p:Pos) (t:Sem Fin) (s:Shared) (e:End) (s':Shared):Prop:=match t with
 | .pure (.done f)=>e=.ret (.ok f) /\ s'=s
 | .pure (.again c)=>Runs M (Γ.goto c) p (M.den c) [] s e s'
 | .raise x=>e=.ret (.error x) /\ s'=s
 | .rule _ k=>Runs M Γ p (k ()) [] s e s'
 | .at p' k=>Runs M Γ p' (k ()) [] s e s'
 | .load a _ k=>∃ o,s.heap.get? a=some o /\ Runs M Γ p (k o) [] s e s'
 | .update a _ f k=>Runs M Γ p (k ()) [] { s with heap:=s.heap.update a f } e s'
 | .loadIfAlive a k=>Runs M Γ p (k (s.heap.get? a)) [] s e s'
 | .point _ k=>Runs M Γ p (k ()) [] s e s'
 | .alloc o k=>Runs M Γ p (k s.heap.objs.size) [] { s with heap:=s.heap.push o } e s'
 | .fresh k=>Runs M Γ p (k s.toks) [] { s with toks:=s.toks + 1 } e s'
 | .ask k=>Runs M Γ p (k ⟨M.prog,M.w.params⟩) [] s e s'
 | .choose src n k=>Runs M Γ p (k (M.w.draws src (s.drawn.get src) % n)) [] { s with drawn:=s.drawn.bump src } e s'
 | .os q _ k=>Runs M Γ p (k (Os.step s.os q).2) [] { s with os:=(Os.step s.os q).1 } e s'
 | .handled own k=>Runs M Γ p (k (if own then Γ.own else Γ.handled)) [] s e s'
 | .genState g k=>∃ st,s.gens[g]?=some st /\ Runs M Γ p (k st.seen) [] s e s'
 | .stack k=>Runs M Γ p (k ((Γ.code,p) :: Γ.below)) [] s e s'
 | .thread k=>Runs M Γ p (k 0) [] s e s'
 | .newGen c k=>Runs M Γ p (k s.gens.size) [] { s with gens:=s.gens.push (.fresh c) } e s'
 | .call c h g l k=>∃ e1 s1,Runs M (Γ.enter c h p) p (M.den c) [] s e1 s1 /\ ((∃ r,e1=.ret r /\ Runs M Γ p (k r) [] s1 e s') \/ ∃ v AQ vd sQ c₀ sR fs,e1=.susp v AQ vd sQ c₀ sR fs /\ s'=s1 /\ e=.susp v AQ vd sQ c₀ sR (fs ++ [.ret k h g l Γ.code p []]))
 | .yield v g l k=>e=.susp v g l k Γ.code p [] /\ s'=s
 | .resume g r _ k=>∃ st,s.gens[g]?=some st /\ ((∃ c,st=.fresh c /\ ((r=.send .none /\ ∃ e1 s1,Runs M (Γ.wake c p) p (M.den c) [] (s.setGen g .running) e1 s1 /\ Runs M Γ p (k e1.result) [] (s1.setGen g e1.genState) e s') \/ (∃ v,r=.send v /\ v≠.none /\ Runs M Γ p (k .justStarted) [] s e s') \/ ∃ x,r=.throw x /\ Runs M Γ p (k (.raised x)) [] (s.setGen g .finished) e s')) \/
   (∃ sQ vd c₀ sR fs cl,st=.suspended sQ vd c₀ sR fs cl /\ ∃ e1 s1,Runs M (Γ.wake c₀ p) sR (sQ r) fs (s.setGen g .running) e1 s1 /\ Runs M Γ p (k e1.result) [] (s1.setGen g e1.genState) e s') \/
   (st=.running /\ Runs M Γ p (k .running) [] s e s') \/ (st=.finished /\ Runs M Γ p (k .finished) [] s e s'))
 | _=>False
def Xh (M:Model) (Γ:Ctx) (p:Pos) (t:Sem Fin) (F:Frame) (fs:List Frame) (s:Shared) (e:End) (s':Shared):Prop:=∃ e1 s1,Runs M (Γ.over (F :: fs)) p t [] s e1 s1 /\
 ((∃ k h g l c₁ ve kp r,F=.ret k h g l c₁ ve kp /\ e1=.ret r /\ Runs M (Γ.goto c₁) ve (k r) fs s1 e s') \/ (∃ g k l c₁ ve r,F=.gen g k l c₁ ve /\ e1=.ret r /\ Runs M (Γ.goto c₁) ve (k (End.ret r).result) fs (s1.setGen g .finished) e s') \/
  ∃ v AQ vd sQ c₀ sR DE,e1=.susp v AQ vd sQ c₀ sR DE /\ ((splitAtGen (F :: fs)=none /\ s'=s1 /\ e=.susp v AQ vd sQ c₀ sR (DE ++ F :: fs)) \/
    ∃ pre g k c₁ ve rest,splitAtGen (F :: fs)=some (pre,(g,k,c₁,ve),rest) /\ Runs M (Γ.goto c₁) ve (k (.yielded v)) rest (s1.setGen g (End.susp v AQ vd sQ c₀ sR (DE ++ pre)).genState) e s'))
def Xi (M:Model) (Γ:Ctx) (p:Pos) (t:Sem Fin) (fs:List Frame) (s:Shared) (e:End) (s':Shared):Prop:=match fs with
 | []=>Xg M Γ p t s e s'
 | F :: fs=>Xh M Γ p t F fs s e s'
theorem aO {M:Model} {Γ:Ctx} {p:Pos} {t:Sem Fin} {fs:List Frame} {s:Shared} {e:End} {s':Shared} (h:Runs M Γ p t fs s e s'):Xi M Γ p t fs s e s':=by
 cases h with
 | done=>exact ⟨rfl,rfl⟩
 | raise=>exact ⟨rfl,rfl⟩
 | again _ r=>exact r
 | rule r=>exact r
 | «at» r=>exact r
 | load g r=>exact ⟨_,g,r⟩
 | update _ r=>exact r
 | loadIfAlive r=>exact r
 | point r=>exact r
 | alloc r=>exact r
 | fresh r=>exact r
 | ask r=>exact r
 | choose _ r=>exact r
 | os r=>exact r
 | handled r=>exact r
 | genState g r=>exact ⟨_,g,r⟩
 | stack r=>exact r
 | thread r=>exact r
 | newGen r=>exact r
 | call a b=>exact ⟨_,_,a,.inl ⟨_,rfl,b⟩⟩
 | callSusp a=>exact ⟨_,_,a,.inr ⟨_,_,_,_,_,_,_,rfl,rfl,rfl⟩⟩
 | yield=>exact ⟨rfl,rfl⟩
 | resumeFresh g a _ b=>exact ⟨_,g,.inl ⟨_,rfl,.inl ⟨rfl,_,_,a,b⟩⟩⟩
 | resumeSuspended g a _ b=>exact ⟨_,g,.inr (.inl ⟨_,_,_,_,_,_,rfl,_,_,a,b⟩)⟩
 | resumeJustStarted g n b=>exact ⟨_,g,.inl ⟨_,rfl,.inr (.inl ⟨_,rfl,n,b⟩)⟩⟩
 | resumeThrowFresh g b=>exact ⟨_,g,.inl ⟨_,rfl,.inr (.inr ⟨_,rfl,b⟩)⟩⟩
 | resumeRunning g b=>exact ⟨_,g,.inr (.inr (.inl ⟨rfl,b⟩))⟩
 | resumeFinished g b=>exact ⟨_,g,.inr (.inr (.inr ⟨rfl,b⟩))⟩
 | segRet a b=>exact ⟨_,_,a,.inl ⟨_,_,_,_,_,_,_,_,rfl,rfl,b⟩⟩
 | segGen a b=>exact ⟨_,_,a,.inr (.inl ⟨_,_,_,_,_,_,rfl,rfl,b⟩)⟩
 | segSuspOut g a=>exact ⟨_,_,a,.inr (.inr ⟨_,_,_,_,_,_,_,rfl,.inl ⟨g,rfl,rfl⟩⟩)⟩
 | segSuspGen g a _ b=>exact ⟨_,_,a,.inr (.inr ⟨_,_,_,_,_,_,_,rfl,.inr ⟨_,_,_,_,_,_,g,b⟩⟩)⟩
theorem pE {M:Model} {Γ:Ctx} {p:Pos} {t:Sem Fin} {fs:List Frame} {s:Shared} {e:End} {s':Shared} (h:Runs M Γ p t fs s e s'):∀ {e2:End} {s2:Shared},Runs M Γ p t fs s e2 s2->e=e2 /\ s'=s2:=by
 induction h with
 | done=>intro e2 s2 h2; obtain ⟨rfl,rfl⟩:=aO h2; exact ⟨rfl,rfl⟩
 | raise=>intro e2 s2 h2; obtain ⟨rfl,rfl⟩:=aO h2; exact ⟨rfl,rfl⟩
 | again _ _ ih=>intro e2 s2 h2; exact ih (aO h2)
 | rule _ ih=>intro e2 s2 h2; exact ih (aO h2)
 | «at» _ ih=>intro e2 s2 h2; exact ih (aO h2)
 | load g _ ih=>intro e2 s2 h2; obtain ⟨o,g2,r⟩:=aO h2; cases g.symm.trans g2; exact ih r
 | update _ _ ih=>intro e2 s2 h2; exact ih (aO h2)
 | loadIfAlive _ ih=>intro e2 s2 h2; exact ih (aO h2)
 | point _ ih=>intro e2 s2 h2; exact ih (aO h2)
 | alloc _ ih=>intro e2 s2 h2; exact ih (aO h2)
 | fresh _ ih=>intro e2 s2 h2; exact ih (aO h2)
 | ask _ ih=>intro e2 s2 h2; exact ih (aO h2)
 | choose _ _ ih=>intro e2 s2 h2; exact ih (aO h2)
 | os _ ih=>intro e2 s2 h2; exact ih (aO h2)
 | handled _ ih=>intro e2 s2 h2; exact ih (aO h2)
 | genState g _ ih=>intro e2 s2 h2; obtain ⟨o,g2,r⟩:=aO h2; cases g.symm.trans g2; exact ih r
 | stack _ ih=>intro e2 s2 h2; exact ih (aO h2)
 | thread _ ih=>intro e2 s2 h2; exact ih (aO h2)
 | newGen _ ih=>intro e2 s2 h2; exact ih (aO h2)
 | call _ _ vf DF=>
   intro e2 s2 h2
   obtain ⟨e1,s1,a,⟨r,rfl,b⟩ | ⟨_,_,_,_,_,_,_,rfl,_,_⟩⟩:=aO h2
   ·obtain ⟨x,rfl⟩:=vf a; cases x; exact DF b
   ·obtain ⟨x,_⟩:=vf a; cases x
 | callSusp _ vf=>
   intro e2 s2 h2
   obtain ⟨e1,s1,a,⟨r,rfl,b⟩ | ⟨_,_,_,_,_,_,_,rfl,rfl,rfl⟩⟩:=aO h2
   ·obtain ⟨x,_⟩:=vf a; cases x
   ·obtain ⟨x,rfl⟩:=vf a; cases x; exact ⟨rfl,rfl⟩
 | yield=>intro e2 s2 h2; obtain ⟨rfl,rfl⟩:=aO h2; exact ⟨rfl,rfl⟩
 | resumeFresh g _ _ _ vf DF=>
   intro e2 s2 h2
   obtain ⟨st,g2,o⟩:=aO h2
   cases g.symm.trans g2
   rcases o with ⟨c,z,⟨_,e1,s1,a,b⟩ | ⟨v,z2,n,_⟩ | ⟨x,z2,_⟩⟩ | ⟨_,_,_,_,_,_,z,_⟩ | ⟨z,_⟩ | ⟨z,_⟩
   ·cases z; obtain ⟨rfl,rfl⟩:=vf a; exact DF b
   ·cases z2; exact (n rfl).elim
   ·cases z2
   ·cases z
   ·cases z
   ·cases z
 | resumeSuspended g _ _ _ vf DF=>
   intro e2 s2 h2
   obtain ⟨st,g2,o⟩:=aO h2
   cases g.symm.trans g2
   rcases o with ⟨c,z,_⟩ | ⟨_,_,_,_,_,_,z,e1,s1,a,b⟩ | ⟨z,_⟩ | ⟨z,_⟩
   ·cases z
   ·cases z; obtain ⟨rfl,rfl⟩:=vf a; exact DF b
   ·cases z
   ·cases z
 | resumeJustStarted g n _ ih=>
   intro e2 s2 h2
   obtain ⟨st,g2,o⟩:=aO h2
   cases g.symm.trans g2
   rcases o with ⟨c,z,⟨z2,_⟩ | ⟨v,z2,_,b⟩ | ⟨x,z2,_⟩⟩ | ⟨_,_,_,_,_,_,z,_⟩ | ⟨z,_⟩ | ⟨z,_⟩
   ·cases z2; exact (n rfl).elim
   ·exact ih b
   ·cases z2
   ·cases z
   ·cases z
   ·cases z
 | resumeThrowFresh g _ ih=>
   intro e2 s2 h2
   obtain ⟨st,g2,o⟩:=aO h2
   cases g.symm.trans g2
   rcases o with ⟨c,z,⟨z2,_⟩ | ⟨v,z2,_,_⟩ | ⟨x,z2,b⟩⟩ | ⟨_,_,_,_,_,_,z,_⟩ | ⟨z,_⟩ | ⟨z,_⟩
   ·cases z2
   ·cases z2
   ·cases z2; exact ih b
   ·cases z
   ·cases z
   ·cases z
 | resumeRunning g _ ih=>
   intro e2 s2 h2
   obtain ⟨st,g2,o⟩:=aO h2
   cases g.symm.trans g2
   rcases o with ⟨c,z,_⟩ | ⟨_,_,_,_,_,_,z,_⟩ | ⟨_,b⟩ | ⟨z,_⟩
   ·cases z
   ·cases z
   ·exact ih b
   ·cases z
 | resumeFinished g _ ih=>
   intro e2 s2 h2
   obtain ⟨st,g2,o⟩:=aO h2
   cases g.symm.trans g2
   rcases o with ⟨c,z,_⟩ | ⟨_,_,_,_,_,_,z,_⟩ | ⟨z,_⟩ | ⟨_,b⟩
   ·cases z
   ·cases z
   ·cases z
   ·exact ih b
 | segRet _ _ vf DF=>
   intro e2 s2 h2
   obtain ⟨e1,s1,a,o⟩:=aO h2
   obtain ⟨rfl,rfl⟩:=vf a
   rcases o with ⟨_,_,_,_,_,_,_,_,z,z2,b⟩ | ⟨_,_,_,_,_,_,z,_,_⟩ | ⟨_,_,_,_,_,_,_,z,_⟩
   ·cases z; cases z2; exact DF b
   ·cases z
   ·cases z
 | segGen _ _ vf DF=>
   intro e2 s2 h2
   obtain ⟨e1,s1,a,o⟩:=aO h2
   obtain ⟨rfl,rfl⟩:=vf a
   rcases o with ⟨_,_,_,_,_,_,_,_,z,_,_⟩ | ⟨_,_,_,_,_,_,z,z2,b⟩ | ⟨_,_,_,_,_,_,_,z,_⟩
   ·cases z
   ·cases z; cases z2; exact DF b
   ·cases z
 | segSuspOut g _ vf=>
   intro e2 s2 h2
   obtain ⟨e1,s1,a,o⟩:=aO h2
   obtain ⟨rfl,rfl⟩:=vf a
   rcases o with ⟨_,_,_,_,_,_,_,_,_,z,_⟩ | ⟨_,_,_,_,_,_,_,z,_⟩ | ⟨_,_,_,_,_,_,_,z,⟨_,z2,z3⟩ | ⟨_,_,_,_,_,_,g2,_⟩⟩
   ·cases z
   ·cases z
   ·cases z; cases z2; cases z3; exact ⟨rfl,rfl⟩
   ·cases g.symm.trans g2
 | segSuspGen g _ _ _ vf DF=>
   intro e2 s2 h2
   obtain ⟨e1,s1,a,o⟩:=aO h2
   obtain ⟨rfl,rfl⟩:=vf a
   rcases o with ⟨_,_,_,_,_,_,_,_,_,z,_⟩ | ⟨_,_,_,_,_,_,_,z,_⟩ | ⟨_,_,_,_,_,_,_,z,⟨g2,_,_⟩ | ⟨_,_,_,_,_,_,g2,b⟩⟩
   ·cases z
   ·cases z
   ·cases g.symm.trans g2
   ·cases z; cases g.symm.trans g2; exact DF b
theorem AR {M:Model} {Γ:Ctx} {p:Pos} {g:Nat} {r:Resume} {s:Shared} {a b:GenResult} {s1 s2:Shared} (h1:Wakes M Γ p g r s a s1) (h2:Wakes M Γ p g r s b s2):a=b /\ s1=s2:=by
 unfold Wakes at h1 h2
 cases hg:s.gens[g]? with
 | none=>rw [hg] at h1; exact h1.elim
 | some gs=>
   rw [hg] at h1 h2
   cases gs with
   | fresh c=>
     cases r with
     | send v=>
       cases v with
       | none=>
         obtain ⟨e1,t1,x1,_,rfl,rfl⟩:=h1
         obtain ⟨e2,t2,x2,_,rfl,rfl⟩:=h2
         obtain ⟨rfl,rfl⟩:=pE x1 x2
         exact ⟨rfl,rfl⟩
       | _=>exact ⟨h1.1.trans h2.1.symm,h1.2.trans h2.2.symm⟩
     | throw x=>exact ⟨h1.1.trans h2.1.symm,h1.2.trans h2.2.symm⟩
   | suspended k0 l0 c0 p0 fs cl=>
     obtain ⟨e1,t1,x1,_,rfl,rfl⟩:=h1
     obtain ⟨e2,t2,x2,_,rfl,rfl⟩:=h2
     obtain ⟨rfl,rfl⟩:=pE x1 x2
     exact ⟨rfl,rfl⟩
   | running=>exact ⟨h1.1.trans h2.1.symm,h1.2.trans h2.2.symm⟩
   | finished=>exact ⟨h1.1.trans h2.1.symm,h1.2.trans h2.2.symm⟩
theorem Kg {α:Type} (M:Model) (Γ:Ctx) (t:Sem α):∀ {Q1 Q2:α->Pos->Shared->Prop} {E1 E2:Value->Pos->Shared->Prop} {p:Pos} {s:Shared},Sem.wp M Γ t Q1 E1 p s->Sem.wp M Γ t Q2 E2 p s->
  Sem.wp M Γ t (fun a p s=>Q1 a p s /\ Q2 a p s) (fun e p s=>E1 e p s /\ E2 e p s) p s:=by
 induction t with
 | pure a=>intro _ _ _ _ _ _ h1 h2; rw [Sem.wp] at h1 h2 ⊢; exact ⟨h1,h2⟩
 | raise e=>intro _ _ _ _ _ _ h1 h2; rw [Sem.wp] at h1 h2 ⊢; exact ⟨h1,h2⟩
 | load a part k ih=>
   intro _ _ _ _ _ _ h1 h2
   rw [Sem.wp] at h1 h2 ⊢
   obtain ⟨o,g,h1⟩:=h1
   obtain ⟨o2,g2,h2⟩:=h2
   rw [g] at g2; cases g2
   exact ⟨o,g,ih _ h1 h2⟩
 | update a part f k ih=>intro _ _ _ _ _ _ h1 h2; rw [Sem.wp] at h1 h2 ⊢; exact ⟨h1.1,ih _ h1.2 h2.2⟩
 | choose src n k ih=>intro _ _ _ _ _ _ h1 h2; rw [Sem.wp] at h1 h2 ⊢; exact ⟨h1.1,ih _ h1.2 h2.2⟩
 | call c h g l k ih=>
   intro _ _ _ _ _ _ h1 h2
   rw [Sem.wp] at h1 h2 ⊢
   obtain ⟨r,s1,x1,h1⟩:=h1
   obtain ⟨r2,s2,x2,h2⟩:=h2
   obtain ⟨e,rfl⟩:=pE x1 x2
   cases e
   exact ⟨r,s1,x1,ih _ h1 h2⟩
 | genState g k ih=>
   intro _ _ _ _ _ _ h1 h2
   rw [Sem.wp] at h1 h2 ⊢
   obtain ⟨o,g,h1⟩:=h1
   obtain ⟨o2,g2,h2⟩:=h2
   rw [g] at g2; cases g2
   exact ⟨o,g,ih _ h1 h2⟩
 | resume g r l k ih=>
   intro _ _ _ _ _ _ h1 h2
   rw [Sem.wp] at h1 h2 ⊢
   obtain ⟨r,s1,x1,h1⟩:=h1
   obtain ⟨r2,s2,x2,h2⟩:=h2
   obtain ⟨rfl,rfl⟩:=AR x1 x2
   exact ⟨r,s1,x1,ih _ h1 h2⟩
 | unsupported | finish | yield | fork | await | register=>intro _ _ _ _ _ _ h1 _; rw [Sem.wp] at h1; exact h1.elim
 | rule _ k ih | «at» _ k ih | alloc _ k ih | loadIfAlive _ k ih | point _ k ih | fresh k ih | ask k ih | os _ _ k ih | handled _ k ih | newGen _ k ih | stack k ih | thread k ih=>intro _ _ _ _ _ _ h1 h2; rw [Sem.wp] at h1 h2 ⊢; exact ih _ h1 h2
theorem jr {α:Type} {M:Model} {A:Around} {t:Sem α} {Q1 Q2:α->Shared->Prop} {E1 E2:Value->Shared->Prop} {s:Shared} (h1:wpAny M A t Q1 E1 s) (h2:wpAny M A t Q2 E2 s):
  wpAny M A t (fun a s=>Q1 a s /\ Q2 a s) (fun e s=>E1 e s /\ E2 e s) s:=fun Γ p Vn=>Kg M Γ t (h1 Γ p Vn) (h2 Γ p Vn)
end L2
namespace L2
open PySem PySem.Spec PySem.W PyProof.Rows
section
variable {M:Model} {A:Around} {E:Value->Shared->Prop} {s:Shared} {base:Heap} {env:Env} {outer:List Env} {L e:Addr} {cls a0:Value}
theorem cf.upd {h:Heap} {a e:Addr} {i:Nat} {v:Value} (x:cf h e) (hi:a≠e \/ i≠2):cf (h.update a (Obj.mapFields (·.setIfInBounds i v))) e:=by
 obtain ⟨o,fs,ho,hd,h2⟩:=x
 by_cases z:a=e
 ·subst z
  have Qh:i≠2:=hi.resolve_left fun q=>q rfl
  refine ⟨_,_,Heap.get?_update_self _ ho (Obj.isFreed_of_fields (Obj.data_mapFields hd _)),Obj.data_mapFields hd _,?_⟩
  rw [Array.getElem?_setIfInBounds_ne Qh]; exact h2
 ·exact ⟨o,fs,(Heap.get?_update_other _ _ z).trans ho,hd,h2⟩
theorem cf.push {h:Heap} {e:Addr} (x:cf h e) (o:Obj):cf (h.push o) e:=let ⟨p,fs,ho,r⟩:=x; ⟨p,fs,Heap.get?_push_of_some _ ho,r⟩
theorem rM {oe:Obj} {vs:Array Value} {head:Value} {b:Bool} {Q:Unit->Shared->Prop} (jn:A.frames=some (env :: outer)) (hl:s.heap.FunFrames base (env :: outer)) (hf:env.frame=some L)
  (he:s.heap.get? e=some oe) (hd:oe.data=.fields vs) (hsz:1 < vs.size) (h2:vs[2]?=some Value.none)
  (h:∀ h' T oT ts,cf h' e->(∃ o ws,h'.get? e=some o /\ o.data=.fields ws /\ ws[1]?=some (.ref T))->h'.get? T=some oT->oT.data=.fields ts->3 < ts.size->T≠e->Q () { s with heap:=h' }):
  wpAny M A (do let a <- frameOf env; let pl <- entryPlaceOf L b; let c <- EntryCells.newEntry head a .none (rawInt L) .none pl; setField (.ref e) 1 c) Q E s:=by
 have ne:e∉(env :: outer).filterMap (·.frame):=fun hm=>by
  obtain ⟨_,o,ho,Kh⟩:=hl.mem hm
  rw [he] at ho; cases ho; exact Kh vs hd
 refine wpAny_bind (wpAny_frameOf_fun jn hl hf fun h1 hs=>?_)
 refine wpAny_bind (wpAny_entryPlaceOf fun pl iH=>?_)
 unfold EntryCells.newEntry newFields
 refine wpAny_bind (wpAny_newObj_type ?_ (iH.sizeOk5 _ _ _ _ _))
 have e1:h1.get? e=some oe:=(hs.2.1 e ne).trans he
 have lt:=Heap.lt_size e1
 have hT:=(Heap.get?_update_other (h1.push { cls:=.type "traceback",dict:=none,data:=.fields ([head,.ref L,.none,rawInt L,.none] ++ (if pl.isEmpty then List.replicate 6 Value.none else pl)).toArray }) (Obj.mapFields (·.setIfInBounds 1 (Value.ref h1.objs.size))) (Nat.ne_of_lt lt)).trans (Heap.get?_push_size h1 rfl)
 refine wpAny_setField (Heap.get?_push_of_some _ e1) hd hsz (h _ h1.objs.size _ _ ?_ ?_ hT rfl ?_ (Nat.ne_of_gt lt))
 ·exact cf.upd (cf.push ⟨oe,vs,e1,hd,h2⟩ _) (.inr (by decide))
 ·exact ⟨_,_,Heap.get?_update_self _ (Heap.get?_push_of_some _ e1) (Obj.isFreed_of_fields (Obj.data_mapFields hd _)),Obj.data_mapFields hd _,by simp [hsz]⟩
 ·simp only [List.size_toArray,List.length_append,List.length_cons,List.length_nil]; omega
theorem sS {Q:Unit->Shared->Prop} {oe oT:Obj} {vs ts:Array Value} {T:Addr} {fl:Option Addr} (x:cf s.heap e) (he:s.heap.get? e=some oe) (hd:oe.data=.fields vs) (h1:vs[1]?=some (.ref T)) (hT:s.heap.get? T=some oT) (DG:oT.data=.fields ts) (hz:3 < ts.size)
  (h:∀ h',cf h' e->Q () { s with heap:=h' }):wpAny M A (setFlight (.ref e) fl) Q E s:=by
 unfold setFlight
 refine wpAny_bind (wpAny_field he hd h1 ?_)
 rw [if_pos (show (Value.ref T != Value.none)=true from by simp)]
 exact wpAny_setField hT DG hz (h _ (x.upd (.inr (by decide))))
theorem vg {Q:Unit->Shared->Prop} (jn:A.frames=some (env :: outer)) (hf:env.frame=some L) (zp:Heap.FlyingW base (env :: outer) e cls a0 s.heap) (x:cf s.heap e)
  (h:∀ h' T oT ts,cf h' e->(∃ o ws,h'.get? e=some o /\ o.data=.fields ws /\ ws[1]?=some (.ref T))->h'.get? T=some oT->oT.data=.fields ts->3 < ts.size->T≠e->Q () { s with heap:=h' }):wpAny M A (noteFrame (.ref e) env) Q E s:=by
 obtain ⟨f1,f2,hl,oe,vs,T,oT,ts,he,_,hd,h1,hnT,Xj,hT,DG,h3⟩:=zp
 obtain ⟨o',fs,uo,Bl,h2⟩:=id x
 rw [he] at uo; cases uo
 rw [hd] at Bl; cases Bl
 unfold noteFrame
 simp only [hf]
 refine wpAny_bind (wpAny_field he hd h1 ?_)
 rw [if_pos (show (Value.ref T != Value.none)=true from by simp)]
 refine wpAny_bind (wpAny_field hT DG h3 ?_)
 rw [if_neg (show ¬ ((Value.none == rawInt L)=true) from by simp [rawInt])]
 refine wpAny_bind (wpAny_setField hT DG (Array.getElem?_eq_some_iff.mp h3).1 ?_)
 have ot:∀ b,b≠T->(s.heap.update T (Obj.mapFields (·.setIfInBounds 3 Value.none))).get? b=s.heap.get? b:=fun b hb=>Heap.get?_update_other _ _ (Ne.symm hb)
 exact rM jn (hl.of_keeps fun b o hb Kh=>⟨o,(ot b fun q=>by rw [q,hT] at hb; cases hb; exact Kh ts DG).trans hb,rfl⟩) hf ((ot e (Ne.symm Xj)).trans he) hd (Array.getElem?_eq_some_iff.mp h1).1 h2 h
theorem xO {Q:Unit->Shared->Prop} (jn:A.frames=some (env :: outer)) (hf:env.frame=some L) (zp:Heap.FlyingW base (env :: outer) e cls a0 s.heap) (x:cf s.heap e) (h:∀ h',cf h' e->Q () { s with heap:=h' }):wpAny M A (leaving env (.ref e)) Q E s:=by
 unfold leaving
 refine wpAny_bind (vg jn hf zp x fun h' T oT ts x' ⟨o,ws,k1,k2,k3⟩ k4 k5 k6 _=>?_)
 exact sS (s:={ s with heap:=h' }) x' k1 k2 k3 k4 k5 k6 fun h2 x2=>h h2 x2
theorem DH {h0:Heap} {args:List Value} {Q:Unit->Shared->Prop} (jn:A.frames=some (env :: outer)) (hf:env.frame=some L) (hl:h0.FunFrames base (env :: outer)) (hx:Heap.MadeExcOf h0 s.heap e cls args) (h:∀ h',cf h' e->Q () { s with heap:=h' }):wpAny M A (leaving env (.ref e)) Q E s:=by
 obtain ⟨t,he,_,_⟩:=hx.there
 unfold leaving noteFrame
 simp only [hf]
 refine wpAny_bind (wpAny_bind (wpAny_field he rfl (x:=Value.none) rfl ?_))
 rw [if_neg (by decide)]
 refine rM jn (hl.of_keeps fun b o hb _=>⟨o,hx.keeps b o hb,rfl⟩) hf he rfl (Nat.lt_of_lt_of_le (show 1 < 6 by decide) (Nat.le_refl _)) rfl fun h' T oT ts x' ⟨o,ws,k1,k2,k3⟩ k4 k5 k6 _=>?_
 exact sS (s:={ s with heap:=h' }) x' k1 k2 k3 k4 k5 k6 fun h2 x2=>h h2 x2
theorem AS {Q:Unit->Shared->Prop} (jn:A.frames=some (env :: outer)) (hf:env.frame=some L) (zp:Heap.FlyingW base (env :: outer) e cls a0 s.heap) (x:cf s.heap e)
  (hQ:∀ h',Heap.HeldW base (env :: outer) e cls a0 L h'->cf h' e->s.heap.UpToSlots h'->Q () { s with heap:=h' }):wpAny M A (noteFrame (.ref e) env) Q E s:=
 wpAny_mono (jr (wpAny_looks_onW (E:=fun _ _=>False) (Q:=fun _ s2=>∃ h2,s2={ s with heap:=h2 } /\ Heap.HeldW base (env :: outer) e cls a0 L h2 /\ s.heap.UpToSlots h2) jn hf zp fun h2 k1 k2=>⟨h2,rfl,k1,k2⟩)
  (vg (E:=fun _ _=>False) (Q:=fun _ s2=>cf s2.heap e) jn hf zp x fun _ _ _ _ k _ _ _ _ _=>k)) (fun _ s2 ⟨⟨h2,e2,k1,k2⟩,nc⟩=>by subst e2; exact hQ h2 k1 nc k2) fun _ _ z=>z.1.elim
theorem DI {fl:Value} {l:List Env} {Q:Unit->Shared->Prop} (ht:s.heap.TracedAtW base e cls a0 fl) (x:cf s.heap e) (h:∀ h',cf h' e->Q () { s with heap:=h' }):wpAny M A (setFlight (.ref e) none) Q E s:=by
 obtain ⟨oe,vs,T,oT,ts,he,_,hd,h1,_,_,hT,DG,h3⟩:=ht
 exact sS x he hd h1 hT DG (Array.getElem?_eq_some_iff.mp h3).1 h
theorem Ki {l:List Env} {Q:Unit->Shared->Prop} (hh:Heap.HeldW base l e cls a0 L s.heap) (x:cf s.heap e) (hQ:∀ h',Heap.FlyingW base l e cls a0 h'->cf h' e->s.heap.UpToSlots h'->Q () { s with heap:=h' }):wpAny M A (setFlight (.ref e) none) Q E s:=
 wpAny_mono (jr (wpAny_landsW (E:=fun _ _=>False) (Q:=fun _ s2=>∃ h2,s2={ s with heap:=h2 } /\ Heap.FlyingW base l e cls a0 h2 /\ s.heap.UpToSlots h2) hh fun h2 k1 k2=>⟨h2,rfl,k1,k2⟩)
  (DI (E:=fun _ _=>False) (l:=l) (Q:=fun _ s2=>cf s2.heap e) hh.2.2.2 x fun _ k=>k)) (fun _ s2 ⟨⟨h2,e2,k1,k2⟩,nc⟩=>by subst e2; exact hQ h2 k1 nc k2) fun _ _ z=>z.1.elim
theorem sT {l:List Env} {Q:Unit->Shared->Prop} (hh:Heap.FlyingW base l e cls a0 s.heap) (x:cf s.heap e) (hQ:∀ h',Heap.FlyingW base l e cls a0 h'->cf h' e->s.heap.UpToSlots h'->Q () { s with heap:=h' }):wpAny M A (setFlight (.ref e) none) Q E s:=
 wpAny_mono (jr (lands_againW (E:=fun _ _=>False) (Q:=fun _ s2=>∃ h2,s2={ s with heap:=h2 } /\ Heap.FlyingW base l e cls a0 h2 /\ s.heap.UpToSlots h2) hh fun h2 k1 k2=>⟨h2,rfl,k1,k2⟩)
  (DI (E:=fun _ _=>False) (l:=l) (Q:=fun _ s2=>cf s2.heap e) hh.2.2.2.at x fun _ k=>k)) (fun _ s2 ⟨⟨h2,e2,k1,k2⟩,nc⟩=>by subst e2; exact hQ h2 k1 nc k2) fun _ _ z=>z.1.elim
end
theorem bN.there {P:Program} {w:World} {H:Hp} {h:Heap} {a:Addr} {o:HO} (x:bN P w H h a o):∃ ob,h.get? a=some ob:=by
 induction o with
 | lst xs=>obtain ⟨_,_,_,_,e⟩:=x; exact ⟨_,e⟩
 | tup xs=>obtain ⟨_,_,_,o,e,_⟩:=x; exact ⟨_,e⟩
 | dK aF=>obtain ⟨_,_,_,_,o,es,ep,e,_⟩:=x; exact ⟨_,e⟩
 | dT aF=>obtain ⟨_,_,_,_,o,es,ep,e,_⟩:=x; exact ⟨_,e⟩
 | set S n=>obtain ⟨_,_,_,_,e,_⟩:=x; exact ⟨_,e⟩
 | ins C dx fs=>obtain ⟨_,_,_,e,_⟩:=x; exact ⟨_,e⟩
 | own y=>exact x
 | xd fs=>obtain ⟨_,⟨o,es,ep,e,_⟩,_⟩:=x; exact ⟨_,e⟩
 | met f y=>exact ⟨_,x⟩
 | NS lo hi=>obtain ⟨_,_,_,e⟩:=x; exact ⟨_,e⟩
 | n6 ob u ih=>exact ⟨_,x.1⟩
 | Ho ps=>exact ⟨_,x⟩
 | lam p q=>obtain ⟨_,e,_⟩:=x; exact ⟨_,e⟩
 | code q=>obtain ⟨_,_,_,_,z,e,_⟩:=x; cases z; exact ⟨_,e⟩
 | ext φ=>exact x.2.1
def Lv (g:Heap) (l:List Env) (H:Hp) (B:Heap):Prop:=∀ b,b∉j5 l->(H b≠none \/ ∃ o0,g.get? b=some o0)->∃ o,B.get? b=some o
theorem Lv.at {g h B:Heap} {l:List Env} {H:Hp} (c:Lv g l H B) (st:B.StaysIn h) {b:Addr} {o:Obj} (q:h.get? b=some o) (n:b∉j5 l) (i:H b≠none \/ ∃ o0,g.get? b=some o0):B.get? b=some o:=by
 obtain ⟨o',e⟩:=c b n i
 have:=st b o' e
 rw [q] at this
 cases this
 exact e
theorem xP {l:List Env} {H H1:Hp} {g h h' B base:Heap} (u:Un (j5 l) [] H H1 g h) (c:Lv g l H1 B) (st:B.StaysIn h) (nI:B.StaysIn h') (up:h.UpToSlots h') (fr:h.FunFrames base l):Un (j5 l) [] H H1 g h' where
 keep:=fun b o q n hb hx=>nI b o (c.at st (u.keep b o q n hb hx) hb (.inr ⟨_,q⟩))
 slot:=fun b o q n hb hx=>by
  obtain ⟨sl,e⟩:=u.slot b o q n hb hx
  obtain ⟨_,o1,mH,Kh⟩:=fr.mem hb
  rw [e] at mH
  cases mH
  obtain ⟨K9,e'⟩:=up b _ e Kh
  exact ⟨K9,e'⟩
 free:=u.free
 there:=fun b o q hx=>by
  by_cases hb:b∈j5 l
  ·obtain ⟨_,o1,mH,Kh⟩:=fr.mem hb
   obtain ⟨K9,e'⟩:=up b _ mH Kh
   exact ⟨_,e'⟩
  ·obtain ⟨o',e⟩:=u.there b o q hx
   exact ⟨o',nI b o' (c.at st e hb (.inr ⟨_,q⟩))⟩
 mK:=u.mK
 lR:=u.lR
 mM:=u.mM
theorem sU {P:Program} {w:World} {l:List Env} {H:Hp} {g h h' B:Heap} (x:j8 P w H h) (c:Lv g l H B) (st:B.StaysIn h) (nI:B.StaysIn h') (nf:∀ b∈j5 l,H b=none):j8 P w H h':=fun a o e=>by
 refine (x a o e).mJ (fun b u hb q=>?_) (fun _ q=>q) fun _ _ q=>q
 have ht:H b≠none:=by
  rcases hb with rfl | hb
  ·rw [e]; exact fun z=>nomatch z
  ·rw [hb]; exact fun z=>nomatch z
 exact nI b u (c.at st q (fun z=>ht (nf b z)) (.inl ht))
def wN (P:Program) (w:World):BX:=fun outer H s E e s'=>∃ (a t C:Addr) (B:Heap) (H1:Hp),e=.ref a /\ s'.os=s.os /\ AllBare s'.gens /\ Un (j5 outer) [] H H1 s.heap s'.heap /\ j8 P w H1 s'.heap /\
 s.heap.get? a=none /\ H1 a=none /\ Lv s.heap outer H1 B /\ Heap.FlyingW B outer a (.ref C) (.ref t) s'.heap /\ cf s'.heap a /\ E (.ref C) none H1
section
variable {P:Program} {w:World} {K:PySem.W.Frag} {mg:Str->Option Value} {base:Heap} {N:List Str} {qual:Str} {scope:Scope} {f:Addr} {cd:Value} {A:Around} {outer:List Env} {s:Shared} {H:Hp} {E:XK}
theorem Inv.tracked {X:Cx} {pins:List (Addr×Obj)} {σ:St} {H1:Hp} {s1:Shared} (I:Inv X pins σ H1 s1) {b:Addr} (n:H1 b≠none):∃ o,s1.heap.get? b=some o:=by
 cases q:H1 b with
 | none=>exact absurd q n
 | some o=>exact (I.be b o q).there
theorem Gw {pins:List (Addr×Obj)} {σ:St} {H1:Hp} {s1:Shared} {h':Heap} {a C:Addr} {vs:List Value} (I:Inv (gO (wN P w) P w K mg base N qual scope f cd A outer s H E) pins σ H1 s1)
  (hx:Heap.MadeExcOf s1.heap h' a (.ref C) vs) (hE:E (.ref C) none H1):(gO (wN P w) P w K mg base N qual scope f cd A outer s H E).xe (.ref a) { s1 with heap:=h' }:=by
 have st:(hideAll s1.heap (j5 (envOfC qual scope s.heap.objs.size f cd :: outer))).StaysIn s1.heap:=fun b o q=>of_hideAll _ q
 have xQ:∀ b,b∉j5 outer->(H1 b≠none \/ ∃ o0,s.heap.get? b=some o0)->∃ o,(hideAll s1.heap (j5 (envOfC qual scope s.heap.objs.size f cd :: outer))).get? b=some o:=fun b nb i=>by
  have hb:b∉j5 (envOfC qual scope s.heap.objs.size f cd :: outer):=fun z=>by
   rcases List.mem_cons.mp (I.jx b z) with e | z
   ·rcases i with i | ⟨o0,i⟩
    ·exact i (by rw [e]; exact I.free)
    ·exact absurd (Nat.lt_of_lt_of_le (Heap.lt_size i) (by rw [e]; exact I.ok.above)) (Nat.lt_irrefl _)
   ·exact nb z
  have ex:∃ o,s1.heap.get? b=some o:=by
   rcases i with i | ⟨o0,i⟩
   ·exact I.tracked i
   ·exact I.base.there b o0 i (fun z=>nomatch z)
  obtain ⟨o,e⟩:=ex
  exact ⟨o,hideAll_get _ e hb⟩
 have fh:=funFrames_hide I.stack fun env he b hb=>List.mem_filterMap.mpr ⟨env,he,hb⟩
 refine wpAny_mono (jr (wpAny_leaves_madeW (E:=fun _ _=>False) (Q:=fun _ s2=>∃ h2 t,s2={ s1 with heap:=h2 } /\ Heap.FlyingW (hideAll s1.heap (j5 (envOfC qual scope s.heap.objs.size f cd :: outer))) outer a (.ref C) (.ref t) h2 /\ Heap.UpToSlots h' h2)
  (h:=s1.heap) I.ok.frames rfl st fh hx fun h2 t zv _ _ up=>⟨h2,t,rfl,zv,up⟩) (DH (E:=fun _ _=>False) (Q:=fun _ s2=>cf s2.heap a) I.ok.frames rfl fh hx fun _ x=>x)) (fun _ s2 ⟨⟨h2,t,e2,zv,up⟩,nc⟩=>?_) fun _ _ z=>z.1.elim
 subst e2
 have Qu:s1.heap.UpToSlots h2:=(Heap.UpToSlots.of_keeps hx.keeps).trans up
 refine ⟨a,t,C,_,H1,rfl,I.os,I.bare,xP I.base xQ st zv.1 Qu I.ig,sU I.be xQ st zv.1 (fun b hb=>?_),?_,?_,xQ,zv,nc,hE⟩
 ·obtain ⟨_,o,ho,_⟩:=I.ok.ig.mem hb
  exact I.base.free b o ho (I.ok.wR b hb) fun z=>nomatch z
 ·cases q:s.heap.get? a with
  | none=>rfl
  | some o=>
    obtain ⟨o',e⟩:=I.base.there a o q (fun z=>nomatch z)
    rw [hx.new] at e; cases e
 ·cases q:H1 a with
  | none=>rfl
  | some o=>
    obtain ⟨o',e⟩:=I.tracked (b:=a) (by rw [q]; exact fun z=>nomatch z)
    rw [hx.new] at e; cases e
theorem Kj:mS (wN P w) (gO (wN P w) P w K mg base N qual scope f cd A outer s H E) E:=by
 rintro pins σ H0 s0 e s' I ⟨a,t,C,B,H1,rfl,os,bare,un,be,na,ta,Oo,zv,Qv,hE⟩
 have I':=I.BD (ch:=[]) os un be bare (fun b z=>nomatch z)
 have xQ:Lv s.heap outer H1 B:=fun b nb i=>by
  refine Oo b (fun z=>?_) ?_
  ·rcases List.mem_cons.mp (I.jx b z) with e | z
   ·rcases i with i | ⟨o0,i⟩
    ·exact i (by rw [e]; exact I'.free)
    ·exact absurd (Nat.lt_of_lt_of_le (Heap.lt_size i) (by rw [e]; exact I.ok.above)) (Nat.lt_irrefl _)
   ·exact nb z
  ·rcases i with i | ⟨o0,i⟩
   ·exact .inl i
   ·exact .inr (I.base.there b o0 i fun z=>nomatch z)
 refine wpAny_mono (jr (wpAny_leaves_onW (E:=fun _ _=>False) (Q:=fun _ s2=>∃ h2,s2={ s' with heap:=h2 } /\ Heap.FlyingW B outer a (.ref C) (.ref t) h2 /\ s'.heap.UpToSlots h2) I.ok.frames rfl zv fun h2 vh up=>⟨h2,rfl,vh,up⟩)
  (xO (E:=fun _ _=>False) (Q:=fun _ s2=>cf s2.heap a) I.ok.frames rfl zv Qv fun _ x=>x)) (fun _ s2 ⟨⟨h2,e2,vh,up⟩,nc⟩=>?_) fun _ _ z=>z.1.elim
 subst e2
 refine ⟨a,t,C,B,H1,rfl,I'.os,I'.bare,xP I'.base xQ zv.1 vh.1 up I'.ig,sU I'.be xQ zv.1 vh.1 (fun b hb=>?_),?_,ta,xQ,vh,nc,hE⟩
 ·obtain ⟨_,o,ho,_⟩:=I'.ok.ig.mem hb
  exact I'.base.free b o ho (I'.ok.wR b hb) fun z=>nomatch z
 ·cases q:s.heap.get? a with
  | none=>rfl
  | some o=>
    obtain ⟨o',e⟩:=I.base.there a o q (fun z=>nomatch z)
    rw [na] at e; cases e
structure Na (K:PySem.W.Frag) (mg:Str->Option Value) (x:Str) (C:Addr) (bm tl:List Value) (newId:String):Prop where
 bound:mg x=some (.ref C)
 obj:∃ (n:Addr) (nm q:Str) (bs:List Value) (hdct:Bool) (sn:List Str) (sub:List Value) (ab:Bool) (col:Option Bool) (dd:Option Addr) (k0 k1 k2 k3 k5:Option Value) (mN:Str->Option Value),
  mN "__init__"=none /\ ∀ h:Heap,K.In h->h.get? C=some (excClassObj nm q C n bs tl hdct sn sub ab col dd k0 k1 k2 k3 k5 newId) /\ h.Ns n mN /\ OwnTail h bm tl
theorem DJ {x:Str} {C:Addr} {bm tl Qw:List Value} {newId Qx xR Qy B Bn:String} {mi:Expr} {rest:List Expr} {np dO pos:Pos} {t:TA} (hC:Na K mg x C bm tl newId) (Fn:ExcBaseFacts Bn newId Qy Qw) (QA:bm.contains (.type Bn)=true)
  (FB:ExcBaseFacts B Qx xR bm) (ha:PA (gO (wN P w) P w K mg base N qual scope f cd A outer s H E) (mi :: rest) t) (hg:Gl (gO (wN P w) P w K mg base N qual scope f cd A outer s H E) x:=by rfl)
  (he:starEach (mi :: rest) (envOfC qual scope s.heap.objs.size f cd)=(false,eval mi (envOfC qual scope s.heap.objs.size f cd)) :: starEach rest (envOfC qual scope s.heap.objs.size f cd):=by rfl)
  (xb:(backTo dO (starEach rest (envOfC qual scope s.heap.objs.size f cd))).any (·.1)=false:=by rfl) (hd:(x == ("__debug__":Str))=false:=by decide):
  PS (gO (wN P w) P w K mg base N qual scope f cd A outer s H E) (.Raise (some (.Call (.Name x np) (mi :: rest) [] dO)) none pos) (fun _ σ H0=>t σ H0 fun vs H1=>vs.length<=sizeLine /\ E (.ref C) none H1):=by
 intro pins s1 σ H1 D I h
 obtain ⟨n,nm,q,bs,hdct,sn,sub,ab,col,dd,k0,k1,k2,k3,k5,mN,Ij,all⟩:=hC.obj
 obtain ⟨_,_,T⟩:=all _ I.kU
 refine wpAny_Raise_call_subU (C:=C) (nm:=nm) (q:=q) (N:=n) (bs:=bs) (bm:=tl) (hdct:=hdct) (sn:=sn) (sub:=sub) (ab:=ab) (col:=col) (dd:=dd) (k0:=k0) (k1:=k1) (k2:=k2) (k3:=k3) (k5:=k5)
  Fn QA FB (mN:=mN) (T.hasType FB.hasBase) (I.ok.hd rfl) ?_ Ij (kL I hg hC.bound ⟨rfl,?_⟩ hd)
 ·show (backTo dO (starEach (mi :: rest) (envOfC qual scope s.heap.objs.size f cd))).any (·.1)=false
  rw [he]; show (false || (backTo dO (starEach rest (envOfC qual scope s.heap.objs.size f cd))).any (·.1))=false; rw [xb]; rfl
 ·show wpAny _ _ (evalArgs (.ref C) true (backTo dO (starEach (mi :: rest) (envOfC qual scope s.heap.objs.size f cd))) []) _ _ s1
  have hp:=ha dO pins s1 σ H1 _ I h
  have N5:wpAny (model P w) (A.deeper (envOfC qual scope s.heap.objs.size f cd)) (spliced (backTo dO (starEach (mi :: rest) (envOfC qual scope s.heap.objs.size f cd)))) _ _ s1:=hp
  rw [he] at N5 ⊢
  refine Calls.evalArgs_plain (wpAny_mono N5 (fun us s2 ⟨vs,H2,I2,r2,hz,hE⟩=>⟨rfl,by show us.length<=_; rw [<- r2.length]; exact hz,(all _ I2.kU).1,(all _ I2.kU).2.1,(all _ I2.kU).2.2,fun h' e hm=>Gw I2 hm hE⟩) fun _ _ y=>y)
end
abbrev Cx.EU (X:Cx) (a:Addr):Cx:={ X with A:=X.A.mark (some (.ref a)),calm:=false,xe:=fun _ _=>False }
theorem Cx.Ok.EU {X:Cx} (ok:X.Ok) (a:Addr):(X.EU a).Ok:=
 ⟨ok.mod,ok.kind,ok.glob,ok.blt,ok.above,ok.inj,ok.has,ok.BA,(fun z=>nomatch z),ok.frames,ok.E6,ok.IA,ok.bs,ok.yY,ok.qh,ok.rR,ok.ig,ok.wR⟩
theorem Inv.EU {X:Cx} {pins:List (Addr×Obj)} {σ:St} {H:Hp} {s:Shared} (I:Inv X pins σ H s) (a:Addr):Inv (X.EU a) pins σ H s:=⟨I.ok.EU a,I.os,I.bare,I.base,I.loc,I.cell,I.free,I.fq,I.pin,I.be,I.len⟩
theorem Inv.QB {X:Cx} {pins:List (Addr×Obj)} {σ:St} {H:Hp} {s:Shared} {a:Addr} (I:Inv (X.EU a) pins σ H s) (ok:X.Ok):Inv X pins σ H s:=⟨ok,I.os,I.bare,I.base,I.loc,I.cell,I.free,I.fq,I.pin,I.be,I.len⟩
theorem Inv.Kk {X:Cx} {pins:List (Addr×Obj)} {σ cb:St} {H0 H1:Hp} {s0 s1:Shared} {a:Addr} {o:HO} (I:Inv X pins σ H1 s1) (I0:Inv X pins cb H0 s0) (na:s0.heap.get? a=none) (ta:H1 a=none) (new:bN X.prog X.w (upd H1 a o) s1.heap a o):
  Inv X pins σ (upd H1 a o) s1:=by
 have ne:∀ b ob,s0.heap.get? b=some ob->b≠a:=fun b ob q e=>by rw [e,na] at q; cases q
 have nt:∀ b u,H1 b=some u->b≠a:=fun b u q e=>by rw [e,ta] at q; cases q
 have nL:X.env.locals≠a:=by
  obtain ⟨m,⟨ol,_,_,e,_⟩,_⟩:=I0.loc
  exact ne _ _ e
 refine ⟨I.ok,I.os,I.bare,⟨I.base.keep,I.base.slot,fun b ob q n hx=>?_,I.base.there,fun b xs q=>?_,fun b ob u q=>?_,fun b ps q=>?_⟩,I.loc,I.cell,?_,fun x c e=>?_,fun p hp=>?_,fun b u q=>?_,I.len⟩
 ·obtain ⟨o',e⟩:=I0.base.there b ob q hx
  rw [aB (ne b o' e)]; exact I.base.free b ob q n hx
 ·have:=I.base.mK b xs q
  rw [aB (nt _ _ this)]; exact this
 ·have:=I.base.lR b ob u q
  rw [aB (nt _ _ this)]; exact this
 ·obtain ⟨more,this⟩:=I.base.mM b ps q
  exact ⟨more,by rw [aB (nt _ _ this)]; exact this⟩
 ·rw [aB nL]; exact I.free
 ·obtain ⟨v,oc,e1,_⟩:=I0.cell x c e
  rw [aB (ne _ _ e1)]; exact I.fq x c e
 ·obtain ⟨e,n,r1,r2,r3⟩:=I.pin p hp
  exact ⟨e,by rw [aB (ne _ _ (I0.pin p hp).1)]; exact n,r1,r2,r3⟩
 ·by_cases hb:b=a
  ·subst hb; rw [aZ] at q; cases q; exact new
  ·rw [aB hb] at q
   refine (I.be b u q).mJ (fun _ _ _ z=>z) (fun c z=>by rw [aB (nt _ _ z)]; exact z) fun c xs z=>z.ne (by rcases z with z | ⟨_,z⟩ <;> exact nt _ _ z)
theorem Inv.forget {X:Cx} {pins:List (Addr×Obj)} {σ:St} {H:Hp} {s:Shared} {h':Heap} {tk:Nat} {m:Str->Option Value} (I:Inv X pins σ H s) (hn:h'.Ns X.env.locals m) (hs:Heap.SameBut X.env.locals s.heap h'):
  Inv X pins (List.replicate X.N.length none) H { s with heap:=h',toks:=tk }:=by
 have BC:=I.BC
 have lt:∀ b o,X.fm.heap.get? b=some o->b≠X.env.locals:=fun b o e=>Nat.ne_of_lt (Nat.lt_of_lt_of_le (Heap.lt_size e) I.ok.above)
 refine ⟨I.ok,I.os,I.bare,⟨fun b o e n hb hx=>(hs.2 b (lt b o e)).trans (I.base.keep b o e n hb hx),fun b o e n hb hx=>?_,I.base.free,fun b o e hx=>?_,I.base.mK,I.base.lR,I.base.mM⟩,⟨m,hn,fun j y v e1 e2 _=>?_⟩,fun y c e=>?_,I.free,I.fq,fun p hp=>?_,fun b u q=>?_,by simp⟩
 ·obtain ⟨sl,e1⟩:=I.base.slot b o e n hb hx
  exact ⟨sl,(hs.2 b (lt b o e)).trans e1⟩
 ·obtain ⟨o',e1⟩:=I.base.there b o e hx
  exact ⟨o',(hs.2 b (lt b o e)).trans e1⟩
 ·rw [List.getElem?_replicate] at e2
  split at e2 <;> cases e2
 ·obtain ⟨w',z⟩:=I.cell y c e
  exact ⟨w',z.sameBut hs (BC y c e)⟩
 ·obtain ⟨e,n,ne,nf,d⟩:=I.pin p hp
  exact ⟨(hs.2 p.1 ne).trans e,n,ne,nf,d⟩
 ·refine (I.be b u q).mJ (fun c w' hc z=>(hs.2 c ?_).trans z) (fun _ z=>z) fun _ _ z=>z
  rintro rfl
  rcases hc with e | hc
  ·rw [<- e,I.free] at q; cases q
  ·rw [I.free] at hc; cases hc
section
variable {X:Cx} {k:Nat} {f:Addr} {fd:FuncData} {ps:List Str} {sp:Sp} {g T n:Str} {gp dO Xk tp AU pos:Pos} {e:Expr} {es:List Expr} {ta:TA} {Kl:Stmt} {DL:List Stmt} {i:Nat} {Tv:Value} {ts:Addr->TS}
end
end L2
namespace L2
open PySem PySem.Spec PySem.W PyProof.Rows PySem.Builtin PySem.Builtin.ObjectAttr PySem.Builtin.Getset_descriptor
section
variable {prog:Program} {w:World} {A:Around} {E:Value->Shared->Prop} {h:Heap} {g:Array GenState} {d:Drawn} {t:Nat} {os:OsState} {a C:Addr} {o:Obj} {K:Frag}
theorem Gx {R:Result->Shared->Prop} (X:K.In h) (hx:h.get? a=some o) (hc:o.cls=.ref C) (hs:subIn K (.ref C) (.type "object")=some true) (hq:R (.ok (.ret (.ref C))) ⟨h,g,d,t,os⟩):
  codeAny (model prog w) A (.call (.builtin "getset_descriptor.__get__") ⟨[.builtin "object.__class__",.ref a,.ref C],[]⟩) R ⟨h,g,d,t,os⟩:=by
 have Xl:(⟨h,g,d,t,os⟩:Shared).TypeIs (.builtin "object.__class__") "getset_descriptor":=F.typeOf_object_class
 have L1:Looks (model prog w) h (isSubtype (.ref C) (.type "object")) true:=looks_subIn X hs
 refine codeAny_call_builtin KF.slot_gs.plain KF.entry_gs (KF.slot_gs.check _ _ _ _ _ _ _ _ KF.type_class (KF.args_gs _ _ _) ?_)
 have L0:Looks (model prog w) h (typeOf (.ref a)) (.ref C):=by rw [<- hc]; exact (Looks.ld hx).andThen Looks.now
 unfold Builtin.«getset_descriptor.__get__» descrGet
 rw [dga_obj]
 refine wpAny_bind (wpAny_pure ?_)
 unfold descrGetter descrCheckInstance descrNameAndClass isInstance
 simp only [KF.owner_class]
 repeat lk
 refine ⟨Code.quiet_builtin _ (by decide +kernel),codeAny_builtin KF.entry_class ?_⟩
 unfold Builtin.«object.__class__» shownTypeOf
 repeat lk
 exact hq
theorem AV {tk:Tok} {Q:Fin->Shared->Prop} (X:K.In h) (hx:h.get? a=some o) (hc:o.cls=.ref C) (hs:subIn K (.ref C) (.type "object")=some true) (hf:findIn K (.ref C) "__class__"=some (some (.builtin "object.__class__"))) (hq:Q (.done (.ret (.ref C))) ⟨h,g,d,t,os⟩):
  wpAny (model prog w) A (Builtin.«object.__getattribute__» ⟨[.ref a,.str "__class__" tk],[]⟩) Q E ⟨h,g,d,t,os⟩:=by
 have Xl:(⟨h,g,d,t,os⟩:Shared).TypeIs (.builtin "object.__class__") "getset_descriptor":=F.typeOf_object_class
 have f5:=F.typeOf_object_class
 have f6:=F.slot_gs_get.lookup
 have f7:=F.slot_gs_set.lookup
 have L1:Looks (model prog w) h (typeLookup (.ref C) "__class__") (some (.builtin "object.__class__")):=looks_findIn X hf
 repeat (any_goals (first | assumption | (with_reducible refine wpAny_loadPart_at hx ?_; rw [hc]) | with_reducible refine L1.at ?_ | wp_step))
 refine Gx X hx hc hs ?_
 repeat (any_goals (first | assumption | wp_step))
theorem AW {M:Model} {Ik:Value} {Q:Unit->Shared->Prop} (X:K.In h) (hx:h.get? a=some o) (hc:o.cls=.ref C) (hs:subIn K (.ref C) (.type "BaseException")=some true) (hq:Q () ⟨h,g,d,t,os⟩):
  wpAny M A (checkBuiltinCall "BaseException.__getattribute__" ⟨[.ref a,Ik],[]⟩) Q E ⟨h,g,d,t,os⟩:=by
 have hk:builtinKind "BaseException.__getattribute__"=some .slot:=by decide +kernel
 have sV:splitId "BaseException.__getattribute__"=some ("BaseException","__getattribute__"):=by decide +kernel
 have L1:Looks M h (isSubtype (.ref C) (.type "BaseException")) true:=looks_subIn X hs
 have ha:=F.args_bexc_ga (.ref a) Ik
 simp only [checkBuiltinCall,hk,sV]
 refine wpAny_bind ?_
 unfold isInstance
 repeat (first | (with_reducible refine wpAny_loadPart_at hx ?_; rw [hc]) | with_reducible refine L1.at ?_ | wp_step)
 exact hq
theorem Km {tk:Tok} {Q:Value->Shared->Prop} (X:K.In h) (hx:h.get? a=some o) (hc:o.cls=.ref C) (hs:subIn K (.ref C) (.type "object")=some true) (kb:subIn K (.ref C) (.type "BaseException")=some true)
  (hf:findIn K (.ref C) "__class__"=some (some (.builtin "object.__class__"))) (QC:findIn K (.ref C) "__getattribute__"=some (some (.builtin "BaseException.__getattribute__"))) (M8:findIn K (.ref C) "__getattr__"=some none) (hq:Q (.ref C) ⟨h,g,d,t,os⟩):
  wpAny (model prog w) A (getAttrBy (.ref a) (.str "__class__" tk) false) Q E ⟨h,g,d,t,os⟩:=by
 have f3:=PySem.F.attrBase_ValueError.ga.bind (.ref a)
 have QD:(Value.builtin "BaseException.__getattribute__" == Value.builtin "object.__getattribute__")=false:=by decide +kernel
 have Vo:(onTheHeap (Value.ref C) && Value.builtin "BaseException.__getattribute__" == Value.builtin "object.__getattribute__")=false:=by rw [QD]; rfl
 have L1:Looks (model prog w) h (typeLookup (.ref C) "__getattribute__") (some (.builtin "BaseException.__getattribute__")):=looks_findIn X QC
 have L2:Looks (model prog w) h (typeLookup (.ref C) "__getattr__") none:=looks_findIn X M8
 repeat (any_goals (first | assumption | (with_reducible refine wpAny_loadPart_at hx ?_; rw [hc]) | with_reducible refine L1.at ?_ | with_reducible refine L2.at ?_ | wp_step))
 refine codeAny_call_builtin PySem.F.attrBase_ValueError.ga.plain F.entry_bexc_ga (AW X hx hc kb (AV X hx hc hs hf ?_))
 repeat (any_goals (first | assumption | wp_step))
theorem DM {Q:Option Value->Shared->Prop} (X:K.In h) (hx:h.get? a=some o) (hc:o.cls=.ref C) (hs:subIn K (.ref C) (.type "object")=some true) (kb:subIn K (.ref C) (.type "BaseException")=some true)
  (hf:findIn K (.ref C) "__class__"=some (some (.builtin "object.__class__"))) (QC:findIn K (.ref C) "__getattribute__"=some (some (.builtin "BaseException.__getattribute__"))) (M8:findIn K (.ref C) "__getattr__"=some none) (hq:Q (some (.ref C)) ⟨h,g,d,t + 1,os⟩):
  wpAny (model prog w) A (getAttr? (.ref a) "__class__") Q E ⟨h,g,d,t,os⟩:=by
 unfold getAttr? getAttrBy?
 repeat (any_goals (first | assumption | with_reducible apply Km X hx hc hs kb hf QC M8 | wp_step))
end
end L2
namespace L2
open PySem PySem.Spec PySem.W PyProof.Rows
structure DN (K:Frag) (C:Addr):Prop where
 obj:∃ c d cd sl,K.lookup C=some ⟨c,d,.cls cd,sl⟩
 sO:subIn K (.ref C) (.type "object")=some true
 sB:subIn K (.ref C) (.type "BaseException")=some true
 fc:findIn K (.ref C) "__class__"=some (some (.builtin "object.__class__"))
 fg:findIn K (.ref C) "__getattribute__"=some (some (.builtin "BaseException.__getattribute__"))
 fn:findIn K (.ref C) "__getattr__"=some none
theorem vi {K:Frag} {a C:Addr} (c:DN K C):KitX K (.ref a) (.ref C) (fun h=>∃ o,h.get? a=some o /\ o.cls=.ref C) where
 ty:=fun _ _ _ ⟨o,hx,hc⟩=>by rw [<- hc]; exact (Looks.ld hx).andThen Looks.now
 it:=fun _ _ X _=>by
  obtain ⟨c',d',Xm,K9,ho⟩:=c.obj
  intro A' Q' E' s' k q
  unfold isType loadHead
  exact wpAny_bind (wpAny_loadPart (k _ _ (X _ _ ho)) (wpAny_pure q))
 ne:=fun h tp dd its n sl X Xn=>by
  obtain ⟨c',d',Xm,K9,ho⟩:=c.obj
  refine Bool.eq_false_iff.mpr fun q=>?_
  have e:C=tp:=Value.ref.inj (beq_iff_eq.mp q)
  subst e
  have z:=(X _ _ ho).symm.trans Xn
  cases z
 ca:=fun {_ _ _ _ _ s} X ⟨o,hx,hc⟩ k=>by
  obtain ⟨h,g,d,t,os⟩:=s
  exact DM X hx hc c.sO c.sB c.fc c.fg c.fn k
def QE (K:Frag):List V->Hp->VK->Prop:=fun vs H Q=>∃ a C cv b,vs=[.ref a,cv] /\ H a=some (JA a C) /\ DN K C /\ Q (.bl b) H /\
 ((∃ c,(∀ u,RelV cv u->u=c) /\ kitOne K (.ref C) c=some b) \/ ∃ tp cvs,cv=.ref tp /\ H tp=some (.tup cvs) /\ ∀ its,a4 cvs its->kitAny K (.ref C) its=some b)
theorem AX {X:Cx}:ee X (.builtin "isinstance") (QE X.K):=by
 rintro pins s σ H vs us Q I r ⟨a,C,cv,b,rfl,ha,hc,q,h⟩
 have ⟨u1,u2,e,r1,r2⟩:∃ u1 u2,us=[u1,u2] /\ RelV (.ref a) u1 /\ RelV cv u2:=by
  cases r with
  | cons r1 r'=>cases r' with
    | cons r2 Xo=>cases Xo with
      | nil=>exact ⟨_,_,rfl,r1,r2⟩
 subst e
 cases (show u1=Value.ref a from r1)
 have hx:∃ o,s.heap.get? a=some o /\ o.cls=.ref C:=(I.be a _ ha).1.1
 rcases h with ⟨c,MX,e⟩ | ⟨tp,cvs,rfl,ht,e⟩
 ·cases MX u2 r2
  exact kia_one (vi hc) I.kU hx e (fun z=>nomatch z) fun tk=>⟨.bl b,H,I.tok tk,rfl,q⟩
 ·cases (show u2=Value.ref tp from r2)
  obtain ⟨_,its,rv,o,ho,j7,n,lP⟩:=(show bN X.prog X.w H s.heap tp (.tup cvs) from I.be tp _ ht)
  obtain ⟨oc,od,odt,y6⟩:=o
  cases j7
  cases lP
  exact kia_tup (vi hc) I.kU hx ho (e its rv) (fun z=>nomatch z) fun tk=>⟨.bl b,H,I.tok tk,rfl,q⟩
structure iU (k:Nat) (A:Around):Prop where
 dp:A.depth + 3 * k + 5 < recursionLimit
 un:A.units + 16 * k + 200 < cLine
theorem cy.markX {k:Nat} {A:Around} (r:cy k A) (v:Option Value):iU k (A.mark v):=⟨r.dp,r.un⟩
theorem iU.mono {j k:Nat} {A:Around} (r:iU k A) (h:j<=k):iU j A:=⟨by have:=r.dp; omega,by have:=r.un; omega⟩
theorem iU.deeper {k:Nat} {A:Around} (r:iU (k + 1) A) (env:Env):iU k (A.deeper env):=
 ⟨by have:=r.dp; show A.depth + 1 + 3 * k + 5 < _; omega,by have:=r.un; show A.units + 3 + 16 * k + 200 < _; omega⟩
def QG (P:Program) (w:World) (K:Frag) (mg:Str->Option Value) (base:Heap) (N:List Str) (qual:Str) (scope:Scope) (f:Addr) (cd:Value) (A:Around) (outer:List Env) (s:Shared) (H:Hp):Cx:=
 { gO mF P w K mg base N qual scope f cd A outer s H E0 with calm:=false,xe:=fun _ _=>False }
section
variable {P:Program} {w:World} {K:Frag} {mg:Str->Option Value} {base:Heap}
end
def Ko (P:Program) (w:World) (K:Frag) (mg:Str->Option Value) (base:Heap) (k:Nat) (x:Str) (ps:List Str) (sp:Sp):Prop:=
 ∃ f fd,lb P w K mg base (wN P w) k f fd ps sp /\ mg x=some (.ref f) /\ keepIn K (.ref f)=true /\ Binds K fd ps []
section
variable {P:Program} {w:World} {K:Frag} {mg:Str->Option Value} {base:Heap} {x:Str} {st:Stmt} {N ps:List Str} {k:Nat} {sp:Sp}
theorem Df.Xp (F:Df K mg x st ps) (S:aN N ps (ai st)) (len:∀ vs H Q E,sp vs H Q E->vs.length=ps.length)
  (gq:∀ (f:Addr) (bZ:Value) (A:Around) (outer:List Env) (s:Shared) (H:Hp) (vs:List V) (Q:VK) (E:XK),cy k (A.deeper (envOfC x (ai st) s.heap.objs.size f bZ))->sp vs H Q E->
   ∃ t,jy (gO (wN P w) P w K mg base N x (ai st) f bZ A outer s H E) (cz st) t /\ t { nx:=fun _ H'=>Q .gM H',rt:=Q } (start N vs) H):Ko P w K mg base (k + 1) x ps sp:=by
 obtain ⟨f,fd,F,m,b⟩:=F
 have kp:=F.kp
 obtain ⟨oc,od,kV,doc,pm,an,bZ,ct,y6,rfl,lk,mO⟩:=F.ex
 exact ⟨f,_,BZ lk mO S len (gq f bZ),m,kp,b⟩
end
set_option tactic.hygienic true in
theorem Kp {K:Frag} {mg:Str->Option Value} {x:Str} {C:Addr} {bm:List Value} {newId:String} (hm:mg x=some (.ref C)) (q:excIn K C bm newId=true):∃ tl,Na K mg x C bm tl newId:=by
 unfold excIn at q
 split at q
 ·rename_i dd cd sl ho
  split at q
  ·rename_i C' tl k0 k1 k2 k3 n k5 hr hs
   simp only [Bool.and_eq_true,beq_iff_eq,Bool.not_eq_true'] at q
   obtain ⟨⟨⟨⟨⟨e1,e2⟩,hdel⟩,ht⟩,be⟩,Ij⟩:=q
   subst e1 e2
   obtain ⟨nm,bs,mro,ns,qn,hd,sn,sub,ab,col,del⟩:=cd
   dsimp only at hr hdel be Ij
   subst hr hdel
   have Xq:sl=#[k0,k1,k2,k3,some (.builtin n),k5]:=by
    obtain ⟨l⟩:=sl
    simp only at hs
    rw [hs]
   subst Xq
   have QH:∃ c d es ep Fl,K.lookup ns=some ⟨c,d,.dict es ep,Fl⟩ /\ (es.all fun e=>match e.key with | .str _ _=>true | _=>false)=true:=by
    unfold nsOkIn at be
    split at be
    ·rename_i j7
     exact ⟨_,_,_,_,_,j7,be⟩
    ·cases be
   obtain ⟨c2,d2,N2,ep2,Fl,xf,Fy⟩:=QH
   refine ⟨tl,hm,ns,nm,qn,bs,hd,sn,sub,ab,col,dd,k0,k1,k2,k3,k5,nsFind N2,?_,fun h X=>⟨X _ _ ho,?_,tail_of_in X ht⟩⟩
   ·unfold nsIn at Ij
    rw [xf] at Ij
    dsimp only at Ij
    split at Ij
    ·cases Ij
    ·rename_i he
     unfold nsFind findBy
     rw [<- Array.find?_toList,he]
     rfl
   ·have xM:h.Ns ns (h.nsMap ns):=.of_isNs (isNs_of_in X be)
    obtain ⟨o,es,ep,h1,h2,h3,h4⟩:=xM
    rw [X _ _ xf] at h1
    cases h1
    cases h2
    exact ⟨_,_,_,X _ _ xf,rfl,h3,fun _=>rfl⟩
  ·cases q
 ·cases q
def xS:D->Option Str
 | .dict [(.none,.str c)]=>some c
 | _=>none
theorem rN {d:D} {c:Str} (h:xS d=some c):d=r8 c:=by
 unfold xS at h
 split at h
 ·cases h; rfl
 ·cases h
theorem sW {d:D} {r:List (D×D)} {aF:List (List Key×V)} {d':D} (k:((d,d') :: r).map (·.1)=aF.map (fun p=>PyData.tuple (p.1.map jC))) (h:∀ l,d≠.tuple l):False:=by
 cases aF with
 | nil=>cases k
 | cons p q=>exact h _ (List.cons.inj k).1
theorem Il {K:Frag} {H:Hp} {v:V} {c:Str} (h:HD K H v (r8 c)):False:=by
 unfold r8 at h
 cases h with
 | l8 _ k _=>exact sW k fun _ z=>nomatch z
def Gy (d:D) (r:Res):Res:=match xS d with
 | some _=>.rt d
 | none=>r
theorem AY {d:D} {r:Res} (h:xS d=none):Gy d r=r:=by unfold Gy; rw [h]
theorem Gz {c:Str} {r:Res}:Gy (r8 c) r=.rt (r8 c):=rfl
def AZ (mg:Str->Option Value) (E:XK):Str->Hp->Prop:=fun c H=>∀ C,mg c=some (.ref C)->E (.ref C) none H
def xT (c:Str):DS->Option Res:=fun _=>some (.rt (r8 c))
def EV (K:Frag) (mg:Str->Option Value) (n:Nat) (G:List D->Option D):Sp:=fun vs H Q E=>vs.length=n /\ ∃ A ds d,Ls A H /\ cj K (wo H A) vs ds /\ G ds=some d /\
 (∀ v H',aA H H'->HD K (wo H' A) v d->Q v H') /\ ∀ c H',d=r8 c->aA H H'->AZ mg E c H'
section
variable {P:Program} {w:World} {K:Frag} {mg:Str->Option Value} {base:Heap} {N ps:List Str} {x qual:Str} {st:Stmt} {scope:Scope} {f:Addr} {cd:Value} {A:Around} {outer:List Env} {s:Shared} {H:Hp} {E:XK} {O:List Nat} {k:Nat}
theorem DO {c:Str} {C:Addr} {b:Bool} {bm tl Qw:List Value} {newId Qx xR Qy B Bn:String} {mi:Expr} {v:V} {np dO pos:Pos} (hC:Na K mg c C bm tl newId) (Fn:ExcBaseFacts Bn newId Qy Qw) (QA:bm.contains (.type Bn)=true) (FB:ExcBaseFacts B Qx xR bm)
  (ha:PE (gO (wN P w) P w K mg base N qual scope f cd A outer s H E) mi (tC v)) (hg:Gl (gO (wN P w) P w K mg base N qual scope f cd A outer s H E) c:=by rfl)
  (he:starEach [mi] (envOfC qual scope s.heap.objs.size f cd)=[(false,eval mi (envOfC qual scope s.heap.objs.size f cd))]:=by rfl) (QI:starEach ([]:List Expr) (envOfC qual scope s.heap.objs.size f cd)=[]:=by rfl) (hd:(c == ("__debug__":Str))=false:=by decide):
  PS (gO (wN P w) P w K mg base N qual scope f cd A outer s H E) (.Raise (some (.Call (.Name c np) [mi] [] dO)) none pos) (tS K O (b,AZ mg E) (xT c)):=
 (DJ hC Fn QA FB (bg ha cn (by show starEach [mi] (envOfC qual scope s.heap.objs.size f cd)=(false,eval mi (envOfC qual scope s.heap.objs.size f cd)) :: starEach [] (envOfC qual scope s.heap.objs.size f cd); rw [he,QI])) hg (by rw [he,QI]) (by rw [QI]; rfl) hd).mono fun D σ H1 hh=>hh.e fun H0 U A0 δ r R F ed Q=>by
  cases ed
  exact ⟨by show 1<=sizeLine; decide,Q.2 c H1 rfl F.same C hC.bound⟩
theorem zw (O:List Nat) (g:DS->Option Res) (F:Df K mg x st ps) (S:aN N ps (ai st))
  (body:∀ (f:Addr) (bZ:Value) (A:Around) (outer:List Env) (s:Shared) (H:Hp) (E:XK),cy k (A.deeper (envOfC x (ai st) s.heap.objs.size f bZ))->jy (gO (wN P w) P w K mg base N x (ai st) f bZ A outer s H E) (cz st) (tS K O (false,AZ mg E) g))
  (hO:∀ i∈O,ps.length<=i:=by decide) {n m:Nat} (hN:N.length=n:=by rfl) (hP:ps.length=m:=by rfl):Ko P w K mg base (k + 1) x ps (EV K mg m (gQ n g)):=by
 subst hN hP
 refine F.Xp S (fun vs H Q E h=>h.1) (fun f bZ A outer s H vs Q E hr h=>⟨_,body f bZ A outer s H E hr,?_⟩)
 obtain ⟨hn,A',ds,d,al,hd,e,q,qx⟩:=h
 obtain ⟨r,e1,e2⟩:=bind1 e
 refine ⟨H,[],A',_,r,Rel.start al hd (fun i hi=>by have:=hO i hi; rw [<- hd.len,hn]; exact this),Fx.start al,e1,?_⟩
 cases r with
 | nx δ=>cases e2; exact fun U σ H' R F'=>q .gM H' F'.same .gM
 | rt d=>cases e2; exact ⟨fun v H' h=>by unfold kh at h; rw [if_neg Bool.false_ne_true] at h; exact q v H' h.1 h.2,fun c H' e s=>qx c H' e s⟩
 | bk _=>cases e2
 | ct _=>cases e2
end
def ly (g:DS->Option D):DS->Option Res:=fun δ=>(g δ).bind fun d=>some (Gy d (.nx δ))
section
variable {X:Cx} {O:List Nat} {E:XK} {k kk n i:Nat} {x:Str} {ps:List Str} {p pos:Pos} {e:Expr} {es:List Expr} {gr:DS->Option (List D)} {G:List D->Option D} {st:Stmt} {b:Bool}
theorem vj (F:Ko X.prog X.w X.K X.mg X.base k x ps (EV X.K X.mg n G)) (hr:cy kk X.A) (hk:k<=kk) (hx:mS (wN X.prog X.w) X E) (ha:PA X (e :: es) (rh X.K O gr)) (hg:Gl X x:=by rfl)
  (mT:(x == ("__debug__":Str))=false:=by decide) (he:starEach (e :: es) X.env=(false,eval e X.env) :: starEach es X.env:=by rfl) (iH:(backTo pos (starEach es X.env)).any (·.1)=false:=by rfl):
  PE X (.Call (.Name x p) (e :: es) [] pos) (uH (EV X.K X.mg n G) [] E (rh X.K O gr)):=by
 obtain ⟨f,fd,F,m,kp,b⟩:=F
 exact y4 F (hr.mono hk) hg m kp b .nil hx ha mT he iH
set_option tactic.hygienic true in
theorem Kq {K:Frag} {mg:Str->Option Value} {σ:St} {δ:DS} {H:Hp} {Q:VK} {U A0:List Addr} {d:D} (R:Rel K O U A0 σ δ H) (e:bQ G n gr δ=some d) (qn:∀ v H',aA H H'->HD K (wo H' (U ++ A0)) v d->Q v H')
  (qx:∀ c H',d=r8 c->aA H H'->AZ mg E c H'):uH (EV K mg n G) [] E (rh K O gr) σ H Q:=by
 obtain ⟨ds,e1,e2⟩:=bind1 e
 split at e2
 ·rename_i hn
  refine ⟨U,A0,δ,ds,R,e1,fun vs H' s h=>?_⟩
  show EV K mg n G (vs ++ []) H' Q E
  rw [List.append_nil]
  exact ⟨by rw [h.len]; exact hn,U ++ A0,ds,d,(R.same s).al,h,e2,fun v H2 s2 h2=>qn v H2 (s.trans s2) h2,fun c H2 ed s2=>qx c H2 ed (s.trans s2)⟩
 ·cases e2
theorem vk (h:PS X st (uB (uH (EV X.K X.mg n G) [] E (rh X.K O gr)))):PS X st (tS X.K O (b,AZ X.mg E) (ly (bQ G n gr))):=h.mono fun D σ H hh=>hh.e fun H0 U A0 δ r R F ed P=>by
 obtain ⟨d,e1,e2⟩:=bind1 ed
 have e3:=Option.some.inj e2
 refine Kq R e1 (fun v H' s hv=>?_) (fun c H' hd s=>?_)
 ·cases hx:xS d with
  | some c=>rw [rN hx] at hv; exact (Il hv).elim
  | none=>
    rw [AY hx] at e3
    subst e3
    exact P U _ H' (R.same s) (F.grow s)
 ·subst hd
  rw [Gz] at e3
  subst e3
  exact P.2 c H' rfl (F.same.trans s)
end
theorem DQ {K:Frag} {b:Bool} {H0 H':Hp} {A0:List Addr} {v:V} {c:Str} (h:kh K b H0 A0 v (r8 c) H'):False:=by
 unfold kh at h
 split at h
 ·obtain ⟨r,o,_,_,_,_,q⟩:=h
  cases q with
  | l8 k _=>exact sW k fun _ z=>nomatch z
 ·exact Il h.2
abbrev Cx.tr (X:Cx) (js:List (Addr×Obj)) (E:XK):Cx:={ X with pn:=X.pn ++ js,xe:=fun v s1=>∃ σ H0 s0,Inv X js σ H0 s0 /\ wN X.prog X.w X.stack H0 s0 E v s1 }
section
variable {X:Cx} {pins js:List (Addr×Obj)} {σ:St} {H:Hp} {s:Shared} {E:XK}
theorem Cx.Ok.tr (ok:X.Ok):(X.tr js E).Ok:=
 ⟨ok.mod,ok.kind,ok.glob,ok.blt,ok.above,ok.inj,ok.has,ok.BA,ok.hd,ok.frames,ok.E6,ok.IA,ok.bs,ok.yY,ok.qh,ok.rR,ok.ig,ok.wR⟩
theorem Cx.Ok.xU (ok:(X.tr js E).Ok):X.Ok:=
 ⟨ok.mod,ok.kind,ok.glob,ok.blt,ok.above,ok.inj,ok.has,ok.BA,ok.hd,ok.frames,ok.E6,ok.IA,ok.bs,ok.yY,ok.qh,ok.rR,ok.ig,ok.wR⟩
theorem Inv.tr (I:Inv X js σ H s):Inv (X.tr js E) [] σ H s:=⟨I.ok.tr,I.os,I.bare,I.base,I.loc,I.cell,I.free,I.fq,fun p hp=>I.pin p (by rw [List.append_nil] at hp; exact hp),I.be,I.len⟩
theorem Inv.xU (I:Inv (X.tr js E) pins σ H s):Inv X js σ H s:=⟨I.ok.xU,I.os,I.bare,I.base,I.loc,I.cell,I.free,I.fq,fun p hp=>I.pin p (List.mem_append_left _ hp),I.be,I.len⟩
theorem GA:mS (wN X.prog X.w) (X.tr js E) E:=fun _ σ H s _ _ I h=>⟨σ,H,s,I.xU,h⟩
end
abbrev EW (a:Addr) (c:Str):D:=.dict [(.list [],.tuple [.int (a:Nat),.str c])]
def DR (gb:DS->Option Res) (hand:Str->Option D):DS->Option Res:=fun δ=>(gb δ).bind fun r=>match r with
 | .rt d=>(match xS d with
   | some c=>(hand c).bind fun d'=>some (.rt d')
   | none=>some (.rt d))
 | r=>some r
theorem Rel.Kr {K:Frag} {O:List Nat} {A0:List Addr} {σ:St} {H1:Hp} {n i:Nat} {a C:Addr} {c:Str} (hl:σ.length=n) (hi:i < n) (hO:i∉O) (al:Ls A0 H1) (ta:H1 a=none) (xM:nsIn K mainGlobals c=some (some (.ref C))):
  Rel K O [] A0 (σ.set i (some (.ref a))) ((List.replicate n none).set i (some (EW a c))) (upd H1 a (JA a C)):=by
 have get:∀ (j:Nat) d,((List.replicate n (none:Option D)).set i (some (EW a c)))[j]?=some (some d)->j=i /\ d=EW a c:=fun j d q=>by
  by_cases hj:i=j
  ·subst hj
   rw [List.getElem?_set_self (by rw [List.length_replicate]; exact hi)] at q
   cases q
   exact ⟨rfl,rfl⟩
  ·rw [List.getElem?_set_ne hj] at q
   have:=List.mem_of_getElem? q
   rw [List.mem_replicate] at this
   exact absurd this.2 (fun z=>nomatch z)
 exact {
  len:=by rw [List.length_set,List.length_set,List.length_replicate]; exact hl
  fz:=fun j d _ q=>by
   obtain ⟨rfl,rfl⟩:=get j d q
   exact ⟨.ref a,List.getElem?_set_self (by rw [hl]; exact hi),.exc xM (by show wo (upd H1 a (JA a C)) A0 a=_; rw [aY (fun z=>al.free ta z)]; exact aZ)⟩
  ow:=fun j d hj q=>absurd hj (by rw [(get j d q).1]; exact hO)
  inj:=fun j k d e l hj _ _ q _ _ _=>absurd hj (by rw [(get j d q).1]; exact hO)
  al:=al.same (bG ta _) }
section
variable {X:Cx} {O:List Nat} {T n:Str} {Tv:Value} {tp AU pos:Pos} {body DL:List Stmt} {Kl:Stmt} {gb:DS->Option Res} {gs:Addr->DS->Option Res} {hand:Str->Option D} {xk:Str->Hp->Prop} {i:Nat}
theorem Ks {b:Bool} (hb:∀ js E,jy (X.tr js E) body (tS X.K O (b,AZ X.mg E) gb)) (hs:∀ a,jy (X.EU a) (Kl :: DL) (tS X.K O (b,fun _ _=>True) (gs a)))
  (mG:∀ c d,hand c=some d->∃ C,nsIn X.K mainGlobals c=some (some (.ref C)) /\ X.mg c=some (.ref C) /\ exmOne X.K (.ref C) Tv=some true)
  (hh:∀ a c d,hand c=some d->gs a ((List.replicate X.N.length none).set i (some (EW a c)))=some (.rt d)) (hT:X.mg T=some Tv) (hN:X.N.Nodup) (hi:X.N[i]?=some n:=by rfl) (Xr:i∉O:=by decide)
  (hl:X.env.scope.names.lookup n=some .local:=by rfl) (QJ:Gl X T:=by rfl) (Ht:X.stack=X.env :: X.outer:=by rfl) (jn:X.env.frame=some X.env.locals:=by rfl) (DG:(T == ("__debug__":Str))=false:=by decide):
  PS X (.Try body [.ExceptHandler (some (.Name T tp)) (some n) (Kl :: DL) AU] [] [] pos) (tS X.K O (b,xk) (DR gb hand)):=by
 rintro pins s σ H D I ⟨QK,U,A0,δ,r,R,F,ed,P⟩
 obtain ⟨r0,e1,e2⟩:=bind1 ed
 refine wpAny_Try_except ?_
 refine wpAny_mono (hb pins (fun cv _ H2=>∃ c C,r0=.rt (r8 c) /\ cv=.ref C /\ X.mg c=some (.ref C) /\ aA QK H2) [] s σ H D I.tr ⟨QK,U,A0,δ,r0,R,F,e1,?_⟩) (fun fl s1 hq=>?_) ?_
 ·cases r0 with
  | nx δ'=>cases e2; exact P
  | bk δ'=>cases e2; exact P
  | ct δ'=>cases e2; exact P
  | rt d=>
    cases hx:xS d with
    | none=>
      simp only [hx] at e2
      cases e2
      exact ⟨P.1,fun c H' hd s=>by subst hd; cases hx⟩
    | some c=>
      have hd:=rN hx
      subst hd
      exact ⟨fun v H' h=>(DQ h).elim,fun c' H' hd s C hC=>⟨c',C,by rw [hd],rfl,hC,s⟩⟩
 ·cases fl with
  | next=>obtain ⟨cb,H',I',q⟩:=hq; exact wpAny_execs_nil ⟨cb,H',I'.xU,q⟩
  | brk=>obtain ⟨cb,H',I',q⟩:=hq; exact ⟨cb,H',I'.xU,q⟩
  | cont=>obtain ⟨cb,H',I',q⟩:=hq; exact ⟨cb,H',I'.xU,q⟩
  | ret u=>obtain ⟨v,cb,H',I',rv,q⟩:=hq; exact ⟨v,cb,H',I'.xU,rv,q⟩
 rintro v s1 ⟨Xs,H0,s0,I0,a,t,C,B,H1,rfl,os,bare,un,be,na,ta,Oo,zv,Qv,c,C',er,hC,hm,vm⟩
 cases hC
 subst er
 have e3:((hand c).bind fun d'=>some (Res.rt d'))=some r:=e2
 obtain ⟨d,hd,hr⟩:=bind1 e3
 cases hr
 obtain ⟨C2,xM,F8,hex⟩:=mG c d hd
 rw [hm] at F8
 cases F8
 have fr:=zv.2.2.1
 have st:=zv.1
 have QL:Heap.FlyingW B (X.env :: X.outer) a (.ref C) (.ref t) s1.heap:=by rw [<- Ht]; exact zv
 have nf:∀ b∈j5 X.stack,H1 b=none:=fun b hb=>by
  obtain ⟨_,o,ho,_⟩:=I0.stack.mem hb
  exact un.free b o ho (I0.om b hb) fun z=>nomatch z
 have again:∀ {h2:Heap},Heap.FlyingW B (X.env :: X.outer) a (.ref C) (.ref t) h2->s1.heap.UpToSlots h2->Inv X pins Xs H1 { s1 with heap:=h2 }:=fun {h2} vh Qu=>
  I0.BD (ch:=[]) os (xP un Oo st vh.1 Qu fr) (sU be Oo st vh.1 nf) bare (fun b z=>nomatch z)
 refine AS (I0.ok.frames.trans (congrArg some Ht)) jn QL Qv fun h4 held Xu Vp=>?_
 refine Ki held Xu fun h5 Kt Xv Vq=>?_
 have I5:=again Kt (Vp.trans Vq)
 have LT:Looks (model X.prog X.w) h5 (typeOf (.ref a)) (.ref C):=by
  obtain ⟨ob,Xw,hc⟩:=Kt.there
  rw [<- hc]
  exact (Looks.ld Xw).andThen Looks.now
 refine wpAny_handleBy_cons (codeAny_handlers_test (kL (I5.EU a) QJ hT ?_ DG)) (by intro q; cases q)
 refine (exm_one (M:=model X.prog X.w) I5.kU LT hex).here ?_
 refine codeAny_handlers_suite_as (sT Kt Xv fun h6 Nb Xx Xy=>?_)
 have I6:=again Nb ((Vp.trans Vq).trans Xy)
 have Nc:∃ o,h6.get? a=some o /\ o.cls=.ref C:=Nb.there
 have Xz:=I6.Kk (o:=JA a C) I0 na ta ⟨⟨Nc,Xx⟩,let ⟨o,q,_⟩:=Nc; ⟨o,q⟩,fun h1 h2 ⟨⟨o,q,c⟩,⟨o2,fs,q2,c2⟩⟩ kk=>⟨⟨o,kk o q,c⟩,⟨o2,fs,kk o2 q2,c2⟩⟩⟩
 refine oE (X:=X.EU a) (v:=.ref a) (Xz.EU a) hN hi (.inl hl) rfl (fun s7 I7=>?_) (.inr hl)
 have HW:i < X.N.length:=(List.getElem?_eq_some_iff.mp hi).1
 refine wpAny_mono (hs a pins s7 _ _ { nx:=fun _ _=>False,rt:=D.rt } I7 ⟨QK,[],A0,_,.rt d,Rel.Kr I0.len HW Xr (F.old.same vm) ta xM,⟨vm.trans (bG ta _),fun _ z=>(by simp at z),F.old⟩,hh a c d hd,⟨fun v H' h=>P.1 v H' h,fun _ _ _ _=>trivial⟩⟩) (fun fl s8 hq=>?_) fun _ _ z=>z.elim
 cases fl with
 | ret u=>
   obtain ⟨v,cb,H',J,rv,q⟩:=hq
   obtain ⟨m,hn,_⟩:=id J.loc
   exact wpAny_nameGoes hl hn (by rw [I0.ok.kind]; rfl) fun h9 m' IC ng=>⟨v,_,H',(J.QB I0.ok).forget IC ng,rv,q⟩
 | next=>obtain ⟨_,_,_,q⟩:=hq; exact q.elim
 | brk=>obtain ⟨_,_,_,q⟩:=hq; exact q.elim
 | cont=>obtain ⟨_,_,_,q⟩:=hq; exact q.elim
end
def Lw (c T:Str):Bool:=decide (c=T) || decide (T="ValueError") || decide (T="LotError")
def Oq:D->Option (Int×Str)
 | .dict (p :: _)=>(match p.1 with
   | .list _=>(match p.2 with
     | .tuple (.int a :: .str c :: _)=>some (a,c)
     | _=>none)
   | _=>none)
 | _=>none
def bV (cs:List Str) (T:Str) (g:DS->Option D):DS->Option D:=fun δ=>(g δ).bind fun d=>(Oq d).bind fun y=>if y.2∈cs then some (.bool (Lw y.2 T)) else none
def Ot (K:Frag) (cs:List Str) (T:Str) (Tv:Value):Prop:=∀ c∈cs,∀ C,nsIn K mainGlobals c=some (some (.ref C))->DN K C /\ kitOne K (.ref C) Tv=some (Lw c T)
theorem zx {kds:List (D×D)} {aF:List (List Key×V)} {y:Int×Str} (k:kds.map (·.1)=aF.map (fun p=>PyData.tuple (p.1.map jC))) (e:Oq (.dict kds)=some y):False:=by
 cases kds with
 | nil=>cases e
 | cons p r=>
   obtain ⟨d,d'⟩:=p
   refine sW k fun l z=>?_
   subst z
   cases e
theorem fY.Nd {K:Frag} {A:List Addr} {H:Hp} {v:V} {d:D} {y:Int×Str} (h:fY K A H v d) (e:Oq d=some y):∃ a C:Addr,y.1=(a:Nat) /\ v=.ref a /\ nsIn K mainGlobals y.2=some (some (.ref C)) /\ H a=some (JA a C):=by
 rcases h with h | ⟨l,o,rfl,e',q⟩
 ·cases h with
  | l8 _ k _=>exact (zx k e).elim
  | exc k h=>cases e; exact ⟨_,_,rfl,rfl,k,(dQ h).2⟩
  | _=>cases e
 ·cases q with
  | l8 k _=>exact (zx k e).elim
  | lst _=>cases e
section
variable {X:Cx} {O:List Nat} {e:Expr} {ga:DS->Option D} {pos p p2:Pos} {T:Str} {Tv:Value} {cv:V}
set_option tactic.hygienic true in
theorem zy (cs:List Str) (hB:X.mg "isinstance"=none) (ha:PE X e (gU X.K O ga)) (ht:PE X (.Name T p2) (tC cv)) (MX:∀ u,RelV cv u->u=Tv) (hT:Ot X.K cs T Tv) (hg:Gl X "isinstance":=by rfl)
  (he:starEach [e,.Name T p2] X.env=(false,eval e X.env) :: starEach [.Name T p2] X.env:=by rfl) (CF:starEach [.Name T p2] X.env=(false,eval (.Name T p2) X.env) :: starEach [] X.env:=by rfl) (iH:(backTo pos (starEach [.Name T p2] X.env)).any (·.1)=false:=by rfl):
  PE X (.Call (.Name "isinstance" p) [e,.Name T p2] [] pos) (tE X.K O (bV cs T ga)):=
 (lV AX hg hB kX (bg ha (bg ht cn CF) he) (by decide) (by decide) he iH).mono fun σ H Q hh=>hh.e fun U A0 δ d R ed q=>by
  obtain ⟨x,e1,e2⟩:=bind1 ed
  obtain ⟨y,e3,e4⟩:=bind1 e2
  split at e4
  ·rename_i hz
   cases e4
   refine ⟨U,A0,δ,_,R,e1,fun v H' s h=>?_⟩
   obtain ⟨a,C,_,rfl,xM,hH⟩:=h.Nd e3
   obtain ⟨xc,kt⟩:=hT _ hz C xM
   exact ⟨a,C,cv,_,rfl,hH,xc,q _ H' s (.bl _),.inl ⟨Tv,MX,kt⟩⟩
  ·cases e4
end
def Ou (x:Addr) (X:Cx):Prop:=X.A.handled=some (.ref x)
def Nf (x:Addr) (lo:Int) (n:Nat):It:=⟨fun i _=>i < n,fun i H v H'=>H'=H /\ v=.int (lo + i),fun i H=>n<=i /\ ∃ C,H x=some (JA x C)⟩
theorem vn {P:Program} {w:World} {K:Frag} {tg:Expr} (x it:Addr) (lo:Int) (n:Nat):y3 (Ou x) P w K tg (Nf x lo n) [it] it (fun i h=>IsRangeIter h it (lo + (i:Nat) * 1) ((n:Int) - (i:Nat)) 1) where
 mem:=by simp
 obj:=fun i h st b hb=>by
  have e:b=it:=by simpa using hb
  subst e
  exact ⟨_,st,fun v z=>by
   have z':Data.fields _=Data.cell v:=z
   cases z'⟩
 keep:=fun i h h' st k=>k it (by simp) _ st
 item:=by
  intro X hP hw hK hc i pins s σ H E I hf st hg
  subst hP hw hK
  obtain ⟨f0,f1,f2,f3,f4,f5⟩:=hf it (by simp)
  have Pk:i < n:=hg
  refine wpAny_pyNext_range_item st (by omega) fun h' su ng=>?_
  have nI:IsRangeIter h' it (lo + ((i + 1:Nat):Int) * 1) ((n:Int) - ((i + 1:Nat):Int)) 1:=by
   have e1:lo + ((i + 1:Nat):Int) * 1=lo + (i:Int) * 1 + 1:=by push_cast; omega
   have e2:(n:Int) - ((i + 1:Nat):Int)=(n:Int) - (i:Int) - 1:=by push_cast; omega
   rw [e1,e2]; exact su
  have I1:Inv X pins σ H { s with heap:=h',toks:=s.toks + 1 }:=I.turned (fun b o hb e=>ng.extBut b o hb e) f0 f1 f3 f4 f5
  refine ⟨_,rfl,uE (s:={ s with heap:=h',toks:=s.toks + 1 }) (n:="range_iterator") nI rfl rfl (by decide) ⟨.int (lo + i),H,I1,⟨s.toks,?_⟩,⟨rfl,rfl⟩,nI,fun b hb=>(hf b hb).1⟩⟩
  rw [Int.mul_one]
 done:=by
  intro X hP hw hK hc i pins s σ H E I hf st hg
  subst hP hw hK
  obtain ⟨f0,f1,f2,f3,f4,f5⟩:=hf it (by simp)
  obtain ⟨hn,C,hC⟩:=hg
  obtain ⟨ox,fs,ho,hd,h2⟩:=(show cf s.heap x from (I.be x _ hC).1.2)
  exact qu hc ho hd h2 st (by omega) fun h' eb=>⟨rfl,I.turned (t':=s.toks) (fun b o hb e=>eb b o hb e) f0 f1 f3 f4 f5⟩
 self:=fun _ _ _ _ _ st h=>wpAny_pyIter_rangeiter st h
section
variable {X:Cx} {tg:Expr}
theorem A1 {x:Addr} {pins:List (Addr×Obj)} {σ:St} {H:Hp} {s:Shared} {R:It->Hp->Prop} {E:Value->Shared->Prop} {lo hi:Int} {t u v:Tok} {tk:Nat} (I:Inv X pins σ H s) (h1: -(2 ^ 62)<=lo) (h2:lo < 2 ^ 62) (h3: -(2 ^ 62)<=hi) (h4:hi < 2 ^ 62)
  (q:R (Nf x lo (hi - lo).toNat) H):wpAny (model X.prog X.w) X.A (pyIter (.ref s.heap.objs.size)) (BM (Ou x) X pins σ tg R) E { s with heap:=s.heap.push { cls:=.type "range",data:=.fields #[.int lo t,.int hi u,.int 1 v] },toks:=tk }:=by
 refine wpAny_pyIter_range (IsRange.new ..) (small_one h1 h2 h3 h4) ?_
 have I1:Inv X pins σ H { s with heap:=s.heap.push { cls:=.type "range",data:=.fields #[.int lo t,.int hi u,.int 1 v] },toks:=tk }:=I.kept fun b o e=>Heap.get?_push_of_some _ e
 refine ⟨(s.heap.push { cls:=.type "range",data:=.fields #[.int lo t,.int hi u,.int 1 v] }).objs.size,[(s.heap.push { cls:=.type "range",data:=.fields #[.int lo t,.int hi u,.int 1 v] }).objs.size],_,_,H,rfl,
  I1.kept (t':=tk) fun b o e=>Heap.get?_push_of_some _ e,vn x _ lo (hi - lo).toNat,?_,fun b hb=>?_,q⟩
 ·have e1:lo + ((0:Nat):Int) * 1=lo:=by simp
  have e2:(((hi - lo).toNat:Nat):Int) - ((0:Nat):Int)=Builtin.Range.rangeSize lo hi 1:=by rw [rangeSize_one]; split <;> omega
  show IsRangeIter _ _ (lo + ((0:Nat):Int) * 1) ((((hi - lo).toNat:Nat):Int) - ((0:Nat):Int)) 1
  rw [e1,e2]
  exact Heap.get?_push_size _ rfl
 ·have e:b=(s.heap.push { cls:=.type "range",data:=.fields #[.int lo t,.int hi u,.int 1 v] }).objs.size:=by simpa using hb
  subst e
  exact I1.lU (Nat.le_refl _) (I1.be.fresh (Nat.le_refl _))
def mj (x:Addr) (j:Nat) (g:DS->Option (List D)):DS->Option (List D):=fun δ=>((δ[j]?).join.bind Oq).bind fun y=>if y.1=(x:Nat) then cT g δ else none
set_option tactic.hygienic true in
theorem xV {O:List Nat} {a:Expr} {gr:DS->Option (List D)} {p pos:Pos} (x:Addr) (j:Nat) (hm:X.mg "range"=none) (ha:PA X [a] (rh X.K O gr)) (hg:Gl X "range":=by rfl) (hs:starEach [a] X.env=[(false,eval a X.env)]:=by rfl):
  LU (Ou x) X tg (.Call (.Name "range" p) [a] [] pos) (HV X.K O (mj x j gr)):=by
 rintro pins s σ H Q I ⟨U,A0,δ,ds,R,ed,q⟩
 obtain ⟨y,ey,QM⟩:=bind1 ed
 obtain ⟨d0,hj,ej⟩:=bind1 ey
 ·split at QM
  ·rename_i XA
   obtain ⟨v0,_,XB⟩:=R.at (join_some hj)
   obtain ⟨a1,C,ea,_,_,hH⟩:=XB.Nd ej
   have XC:a1=x:=Int.ofNat.inj (ea.symm.trans XA)
   subst XC
   obtain ⟨xs,e1,e2⟩:=bind1 QM
   split at e2
   ·split at e2
    ·rename_i j0 hz
     cases e2
     refine Call_ (fK I hg hm boot_range (PyProof.Rows.callWith_type1 (cO (ha pos pins s σ H (fun vs H1=>aA H H1 /\ cj X.K (wo H1 (U ++ A0)) vs [.int j0]) I ⟨U,A0,δ,_,R,e1,fun vs H' s h=>⟨s,h⟩⟩) fun us s1 ⟨vs,H1,I1,r1,Vr,h1⟩=>?_) hs rfl))
     cases h1 with
     | cons h1 h2=>
       cases h2
       cases h1
       cases r1 with
       | cons r rr=>
         cases rr
         obtain ⟨t,rfl⟩:=r
         refine call_range_1 (A1 (x:=a1) I1 (by omega) (by omega) hz.1 hz.2 (q _ H1 Vr fun i H2 s2=>⟨fun d hd=>?_,fun hi=>?_⟩))
         ·rw [Int.sub_zero]
          obtain ⟨hi,rfl⟩:=oX hd
          refine ⟨hi,fun y H3 hy=>?_⟩
          obtain ⟨rfl,rfl⟩:=hy
          exact ⟨aA.refl _,.int _⟩
         ·rw [oY] at hi
          subst hi
          rw [Int.sub_zero]
          exact ⟨Nat.le_refl _,C,s2 _ _ (Vr _ _ hH)⟩
    ·cases e2
   ·cases e2
  ·cases QM
end
section
variable {X:Cx} {O:List Nat} {scope:Scope} {elt iter tg:Expr} {ifs:List Expr} {pos:Pos} {gi:DS->Option (List D)} {ge:DS->Option D} {gt:D->DS->Option DS} {gc:DS->Option Bool} {k:Nat}
end
theorem iU.units {k:Nat} {A:Around} (r:iU k A):A.units + 64 < cLine:=by have:=r.un; omega
theorem Ku {X:Cx} {k:Nat} (hr:iU k X.A):gT X (compareOp .Eq) (Cv X.K false):=by
 intro pins s σ H x y v u Q I rx ry h
 obtain ⟨d,e,h1,h2,s1,s2,q⟩:=h
 obtain ⟨as,r1⟩:=h1.reads I rx (bW s1)
 obtain ⟨bs,r2⟩:=h2.reads I ry (bW s2)
 exact eq_dataH r1 r2 s1 s2 hr.units ⟨.bl _,H,I,rfl,q⟩
structure Vs (P:Program) (w:World) (K:Frag) (mg:Str->Option Value) (base:Heap) (k:Nat) (f:Addr) (fd:FuncData) (ps:List Str) (sp:Addr->Sp):Prop where
 len:∀ x vs H Q E,sp x vs H Q E->vs.length=ps.length
 run:∀ (x:Addr) (A:Around) (outer:List Env) (s:Shared) (H:Hp) (args:Args) (us:List Value) (vs:List V) (Q:VK) (E:XK),iU k A->A.handled=some (.ref x)->w9 P w K mg base A outer s H->BindsTo s fd args (ps.zip us)->a4 vs us->sp x vs H Q E->
  codeAny (model P w) A (.call (.ref f) args) (CR mF outer P w H s Q E) s
section
variable {P:Program} {w:World} {K:Frag} {mg:Str->Option Value} {base:Heap}
theorem Kv {k:Nat} {f:Addr} {name qual:Str} {params:Arguments} {body:List Stmt} {scope:Scope} {dV kV doc pm bZ ct oc:Value} {an od:Option Addr} {y6:Array (Option Value)} {N ps:List Str} {sp:Addr->Sp}
  (lk:K.lookup f=some ⟨oc,od,.func (fnOf name qual params body scope dV kV doc pm an bZ ct),y6⟩) (mO:codeIn K bZ qual=true) (S:aN N ps scope) (len:∀ x vs H Q E,sp x vs H Q E->vs.length=ps.length)
  (gq:∀ (x:Addr) (A:Around) (outer:List Env) (s:Shared) (H:Hp) (vs:List V) (Q:VK) (E:XK),iU k (A.deeper (envOfC qual scope s.heap.objs.size f bZ))->A.handled=some (.ref x)->sp x vs H Q E->
   ∃ t,jy (QG P w K mg base N qual scope f bZ A outer s H) body t /\ t { nx:=fun _ H'=>Q .gM H',rt:=Q } (start N vs) H):
  Vs P w K mg base (k + 1) f (fnOf name qual params body scope dV kV doc pm an bZ ct) ps sp:=by
 refine ⟨len,fun x A outer s H args us vs Q E hr hx e0 hb r uJ=>?_⟩
 have KX:K.In s.heap:=e0.mod.Hq.keeps fun b o e=>(e0.bs b o e).1
 have lim:s.heap.NoLimit:=e0.mod.nolimit.keeps fun b o e=>(e0.bs b o e).1
 obtain ⟨t,ht,hq⟩:=gq x A outer s H vs Q E (hr.deeper _) hx uJ
 have B0:∀ y∈ps.zip us,scope.names.lookup y.1=some .local \/ (scope.names.lookup y.1=some .cell /\ ((cellsFrom (s.heap.objs.size + 1) scope.names []).lookup y.1).isSome=true):=fun ⟨n,v⟩ hy=>
  (S.par n (List.of_mem_zip hy).1).elim .inl fun q=>.inr ⟨q,cellsFrom_some _ _ _ (.inl q)⟩
 refine codeAny_call_function (by have:=hr.dp; omega) (KX _ _ lk) rfl S.co S.gen rfl (codeRec_of KX mO) (hb _ _ _ _ (wpAny_newFunctionEnv_cells S.kind B0 fun env he s1 x=>?_))
 subst he
 refine ⟨lim.keeps x.toInCall.keep,codeAny_func ?_⟩
 have e1:w9 P w K mg base { A with handled:=none } outer s H:=⟨e0.frames,e0.mod,e0.bs,e0.yY,e0.ig,e0.wR,e0.be,e0.bare⟩
 have J:Inv (gO mF P w K mg base N qual scope f bZ { A with handled:=none } outer s H E0) [] (start N vs) H s1:=qY S rfl e1 (len _ _ _ _ _ uJ) r x
 have I:Inv (QG P w K mg base N qual scope f bZ A outer s H) [] (start N vs) H s1:=
  ⟨⟨J.ok.mod,J.ok.kind,J.ok.glob,J.ok.blt,J.ok.above,J.ok.inj,J.ok.has,J.ok.BA,(fun z=>nomatch z),Around.frames_deeper e0.frames,J.ok.E6,J.ok.IA,J.ok.bs,J.ok.yY,J.ok.qh,J.ok.rR,J.ok.ig,J.ok.wR⟩,
    J.os,J.bare,J.base,J.loc,J.cell,J.free,J.fq,J.pin,J.be,J.len⟩
 refine wpAny_mono (ht [] s1 (start N vs) H _ I hq) (fun fl s' hs=>?_) fun e s' hs=>hs.elim
 cases fl with
 | ret u=>
   obtain ⟨v,cb,H',J',rv,q⟩:=hs
   exact ⟨v,H',J'.os,J'.bare,J'.base,J'.be,rv,q⟩
 | next=>
   obtain ⟨cb,H',J',q⟩:=hs
   exact ⟨.gM,H',J'.os,J'.bare,J'.base,J'.be,rfl,q⟩
 | brk=>obtain ⟨_,_,_,q⟩:=hs; exact q.elim
 | cont=>obtain ⟨_,_,_,q⟩:=hs; exact q.elim
def Ov (P:Program) (w:World) (K:Frag) (mg:Str->Option Value) (base:Heap) (k:Nat) (x:Str) (ps:List Str) (sp:Addr->Sp):Prop:=
 ∃ f fd,Vs P w K mg base k f fd ps sp /\ mg x=some (.ref f) /\ keepIn K (.ref f)=true /\ Binds K fd ps []
theorem GB {x:Str} {st:Stmt} {N ps:List Str} {k:Nat} (O:List Nat) (g:Addr->DS->Option Res) (F:Df K mg x st ps) (S:aN N ps (ai st))
  (body:∀ (y f:Addr) (bZ:Value) (A:Around) (outer:List Env) (s:Shared) (H:Hp),iU k (A.deeper (envOfC x (ai st) s.heap.objs.size f bZ))->A.handled=some (.ref y)->jy (QG P w K mg base N x (ai st) f bZ A outer s H) (cz st) (tS K O (false,fun _ _=>True) (g y)))
  (hO:∀ i∈O,ps.length<=i:=by decide) {n m:Nat} (hN:N.length=n:=by rfl) (hP:ps.length=m:=by rfl):Ov P w K mg base (k + 1) x ps (fun y=>gW K m (gQ n (g y))):=by
 subst hN hP
 obtain ⟨f,fd,F,m,b⟩:=F
 have kp:=F.kp
 obtain ⟨oc,od,kV,doc,pm,an,bZ,ct,y6,rfl,lk,mO⟩:=F.ex
 refine ⟨f,_,Kv lk mO S (fun y vs H Q E h=>h.1) (fun y A outer s H vs Q E hr hy h=>⟨_,body y f bZ A outer s H hr hy,?_⟩),m,kp,b⟩
 obtain ⟨hn,A',ds,d,al,hd,e,q⟩:=h
 obtain ⟨r,e1,e2⟩:=bind1 e
 refine ⟨H,[],A',_,r,Rel.start al hd (fun i hi=>by have:=hO i hi; rw [<- hd.len,hn]; exact this),Fx.start al,e1,?_⟩
 cases r with
 | nx δ=>cases e2; exact fun U σ H' R F'=>q .gM H' F'.same .gM
 | rt d=>cases e2; exact ⟨fun v H' h=>by unfold kh at h; rw [if_neg Bool.false_ne_true] at h; exact q v H' h.1 h.2,fun _ _ _ _=>trivial⟩
 | bk _=>cases e2
 | ct _=>cases e2
end
set_option tactic.hygienic true in
theorem DT {X:Cx} {O:List Nat} {y:Addr} {k kk n:Nat} {ps:List Str} {G:Addr->List D->Option D} {x:Str} {p pos:Pos} {e:Expr} {es:List Expr} {gr:DS->Option (List D)} (F:Ov X.prog X.w X.K X.mg X.base k x ps (fun y=>gW X.K n (G y))) (hr:iU kk X.A) (hk:k<=kk) (hy:X.A.handled=some (.ref y))
  (ha:PA X (e :: es) (rh X.K O gr)) (hg:Gl X x:=by rfl) (mT:(x == ("__debug__":Str))=false:=by decide) (he:starEach (e :: es) X.env=(false,eval e X.env) :: starEach es X.env:=by rfl) (iH:(backTo pos (starEach es X.env)).any (·.1)=false:=by rfl):
  PE X (.Call (.Name x p) (e :: es) [] pos) (tE X.K O (bQ (G y) n gr)):=by
 obtain ⟨f,fd,F,hm,kp,hb⟩:=F
 rintro pins s σ H Q I ⟨U,A0,δ,d,R,ed,q⟩
 obtain ⟨ds,e1,e2⟩:=bind1 ed
 split at e2
 rotate_left
 ·cases e2
 rename_i hn
 refine wpAny_Call_Name_kw (kL I hg hm ?_ mT)
 refine callWith_K (h₀:=X.base) I.ok.mod.Hq kp (cO (ha pos pins s σ H (fun vs H1=>gW X.K n (G y) vs H1 Q E0) I ⟨U,A0,δ,ds,R,e1,fun vs H' s h=>⟨by rw [h.len]; exact hn,U ++ A0,ds,d,(R.same s).al,h,e2,fun v H2 s2 h2=>q v H2 (s.trans s2) h2⟩⟩) fun us s1 ⟨vs,H1,I1,r,q⟩=>⟨I1.kU,?_⟩) he iH
 have hlen:us.length=ps.length:=by rw [<- r.length]; exact F.len _ _ _ _ _ q
 refine wpAny_call (codeAny_mono (F.run y X.A X.stack s1 H1 ⟨us,[]⟩ us vs _ _ (hr.mono hk) hy I1.L5 (by have:=hb s1 us I1.kU (by rw [List.append_nil]; exact hlen); rwa [List.append_nil] at this) r q) fun rr s' hq=>?_)
 cases rr with
 | error v=>exact False.elim hq
 | ok fl=>
   cases fl with
   | ret u=>exact I1.after hq
   | next=>exact False.elim hq
   | brk=>exact False.elim hq
   | cont=>exact False.elim hq
def jM (cs:List Str) (f:Str->D):Str->Option D:=fun c=>if c∈cs then some (f c) else none
theorem nV {cs:List Str} {f:Str->D} {c:Str} {d:D} (h:jM cs f c=some d):c∈cs /\ d=f c:=by
 unfold jM at h
 split at h
 ·cases h; exact ⟨by assumption,rfl⟩
 ·cases h
theorem xW {cs:List Str} {f:Str->D} {c:Str} {d:D} (h:jM cs f c=some d):c∈cs:=(nV h).1
theorem qv {x:Addr} {j:Nat} {c:Str} {g:DS->Option (List D)} {δ:DS} (e:(δ[j]?).join=some (EW x c)):mj x j g δ=cT g δ:=by
 unfold mj
 rw [e]
 exact if_pos rfl
theorem DU {gi Vt:DS->Option (List D)} {k:Nat} {ix:List Nat} {gt:D->DS->Option DS} {gc:DS->Option Bool} {ge:DS->Option D} {δ:DS} (h:gi δ=Vt δ):ba gi k ix gt gc ge δ=ba Vt k ix gt gc ge δ:=by unfold ba; rw [h]
def Kw (K:Frag) (mg:Str->Option Value) (cs TS:List Str):Prop:=∀ T∈TS,∃ C,mg T=some (.ref C) /\ Ot K cs T (.ref C)
def Ng (K:Frag) (mg:Str->Option Value) (L:Addr) (cs:List Str):Prop:=∀ c∈cs,∃ C,nsIn K mainGlobals c=some (some (.ref C)) /\ mg c=some (.ref C) /\ exmOne K (.ref C) (.ref L)=some true
theorem cU {X:Cx} {O:List Nat} {e:Expr} {ga:DS->Option D} {pos p p2:Pos} {T:Str} (cs TS:List Str) (CT:Kw X.K X.mg cs TS) (XD:T∈TS) (hB:X.mg "isinstance"=none) (ha:PE X e (gU X.K O ga)) (QJ:Gl X T:=by rfl) (DG:(T == ("__debug__":Str))=false:=by decide) (hg:Gl X "isinstance":=by rfl)
  (he:starEach [e,.Name T p2] X.env=(false,eval e X.env) :: starEach [.Name T p2] X.env:=by rfl) (CF:starEach [.Name T p2] X.env=(false,eval (.Name T p2) X.env) :: starEach [] X.env:=by rfl) (iH:(backTo pos (starEach [.Name T p2] X.env)).any (·.1)=false:=by rfl):
  PE X (.Call (.Name "isinstance" p) [e,.Name T p2] [] pos) (tE X.K O (bV cs T ga)):=by
 obtain ⟨C,m,k⟩:=CT T XD
 exact zy cs hB ha (l6 (v:=.ref C) ⟨_,m,rfl⟩ QJ DG) (fun u r=>r) k hg he CF iH
def Im:Option Obj->Bool
 | some ⟨_,_,.cls _,_⟩=>true
 | _=>false
def DV (K:Frag) (C:Addr):Bool:=Im (K.lookup C) && subIn K (.ref C) (.type "object") == some true && subIn K (.ref C) (.type "BaseException") == some true && findIn K (.ref C) "__class__" == some (some (.builtin "object.__class__")) &&
 findIn K (.ref C) "__getattribute__" == some (some (.builtin "BaseException.__getattribute__")) && findIn K (.ref C) "__getattr__" == some none
theorem GC {K:Frag} {C:Addr} (q:DV K C=true):DN K C:=by
 unfold DV at q
 simp only [Bool.and_eq_true,beq_iff_eq] at q
 obtain ⟨⟨⟨⟨⟨a,b⟩,c⟩,d⟩,e⟩,f⟩:=q
 refine ⟨?_,b,c,d,e,f⟩
 unfold Im at a
 split at a
 ·exact ⟨_,_,_,_,by assumption⟩
 ·cases a
def refOf:Option (Option Value)->Option Addr
 | some (some (.ref C))=>some C
 | _=>none
theorem pF {v:Option (Option Value)} {C:Addr} (h:refOf v=some C):v=some (some (.ref C)):=by
 unfold refOf at h
 split at h
 ·cases h; rfl
 ·cases h
def xX (K:Frag) (L:Addr) (cs TS:List Str):Bool:=(TS.all fun T=>(refOf (nsIn K mainGlobals T)).isSome) && cs.all fun c=>match refOf (nsIn K mainGlobals c) with
 | some C=>DV K C && exmOne K (.ref C) (.ref L) == some true && kitOne K (.ref C) (.type "ValueError") == some true && TS.all fun T=>match refOf (nsIn K mainGlobals T) with
   | some CT=>kitOne K (.ref C) (.ref CT) == some (Lw c T)
   | none=>false
 | none=>false
section
variable {K:Frag} {L:Addr} {cs TS:List Str} {c:Str} {h:Heap} {mg:Str->Option Value}
set_option tactic.hygienic true in
theorem pG (q:xX K L cs TS=true) (hc:c∈cs):∃ C,nsIn K mainGlobals c=some (some (.ref C)) /\ DN K C /\ exmOne K (.ref C) (.ref L)=some true /\ kitOne K (.ref C) (.type "ValueError")=some true /\
  ∀ T∈TS,∀ CT,nsIn K mainGlobals T=some (some (.ref CT))->kitOne K (.ref C) (.ref CT)=some (Lw c T):=by
 unfold xX at q
 rw [Bool.and_eq_true] at q
 have q1:=List.all_eq_true.mp q.2 c hc
 split at q1
 ·rename_i C hC
  simp only [Bool.and_eq_true,beq_iff_eq] at q1
  obtain ⟨⟨⟨a,b⟩,d⟩,e⟩:=q1
  refine ⟨C,pF hC,GC a,b,d,fun T hT CT QN=>?_⟩
  have e1:=List.all_eq_true.mp e T hT
  rw [QN] at e1
  exact beq_iff_eq.mp e1
 ·cases q1
theorem GD (X:K.In h) (G:h.Ns mainGlobals mg) (q:xX K L cs TS=true):Kw K mg cs TS:=fun T hT=>by
 have q0:=q
 unfold xX at q0
 rw [Bool.and_eq_true] at q0
 have q1:=List.all_eq_true.mp q0.1 T hT
 obtain ⟨CT,QN⟩:=Option.isSome_iff_exists.mp q1
 have hn:=pF QN
 refine ⟨CT,mg_of X G hn,fun c hc C hC=>?_⟩
 obtain ⟨C',h1,h2,_,_,h5⟩:=pG q hc
 rw [hC] at h1
 cases h1
 exact ⟨h2,h5 T hT CT hn⟩
theorem GF (q:xX K L cs TS=true):Ot K cs "ValueError" (.type "ValueError"):=fun c hc C hC=>by
 obtain ⟨C',h1,h2,_,h4,_⟩:=pG q hc
 rw [hC] at h1
 cases h1
 refine ⟨h2,h4.trans ?_⟩
 unfold Lw
 simp
theorem GH (X:K.In h) (G:h.Ns mainGlobals mg) (q:xX K L cs TS=true):Ng K mg L cs:=fun c hc=>by
 obtain ⟨C,h1,_,h3,_⟩:=pG q hc
 exact ⟨C,h1,mg_of X G h1,h3⟩
end
theorem A2 {es:List Expr} {p:Pos} {t:Option Expr} {l:Nat} {env:Env}:swapsWith (.List es p) t l env=pure false:=rfl
def zz:List Expr->Option (List Str)
 | []=>some []
 | .Constant (.str n) _ _ :: es=>(zz es).map (n :: ·)
 | _=>none
def vo (ns:List Str):DS->Option (List D):=fun _=>some (ns.map .str)
set_option tactic.hygienic true in
theorem pH {X:Cx} {O:List Nat}:∀ {es:List Expr} {ns:List Str},zz es=some ns->PA X es (rh X.K O (vo ns))
 | [],ns,h=>by
   cases h
   exact ao
 | e :: es,ns,h=>by
   unfold zz at h
   split at h
   ·cases ‹_ :: _=[]›
   ·rename_i n k p uq he
    cases he
    cases q:zz es with
    | none=>rw [q] at h; cases h
    | some ms=>
      rw [q] at h
      cases h
      exact af (fw j9) (pH q) rfl
   ·cases h
theorem Nh:bootBuiltins "ValueError"=some (.type "ValueError"):=by decide +kernel
abbrev VE:List Value:=[.type "ValueError",.type "Exception",.type "BaseException",.type "object"]
theorem A3 {X:Cx} {O:List Nat} {scope:Scope} {elt iter tg:Expr} {ifs:List Expr} {pos:Pos} {gi:DS->Option (List D)} {ge:DS->Option D} {gt:D->DS->Option DS} {gc:DS->Option Bool} {k:Nat} {gd:Cx->Prop} (sc:Scope) (N:List Str) (ix:List Nat) (N' xs:List Str) (hc:∀ cl C s2 H2 fp pins,gd (bp X scope N' cl C s2 H2 fp pins)) (own:JW k gt) (hi:LU gd X tg iter (HV X.K O gi))
  (hg:∀ cl C s2 H2 fp pins,PG (bp X scope N' cl C s2 H2 fp pins) tg (tG X.K [] gt)) (hf:∀ cl C s2 H2 fp pins,PF (bp X scope N' cl C s2 H2 fp pins) ifs (tT X.K [] gc)) (pe:∀ cl C s2 H2 fp pins,PE (bp X scope N' cl C s2 H2 fp pins) elt (tE X.K [] ge))
  (C5:∀ j∈ix,j∉O:=by decide) (hk:km sc scope N xs ix N'=true:=by decide +kernel) (hl:xs.length=k:=by rfl)
  (e1:X.env.scope=sc:=by rfl) (e2:X.N=N:=by rfl) (hs:∀ x,foldedSetIterable iter X.env x=pure x:=by intro _; rfl):PE X (.ListComp elt [⟨tg,iter,ifs,0⟩] scope pos) (tN X.K O (ba gi k ix gt gc ge)):=by
 subst hl
 exact (rC (lx hk e1 e2) hc hi hg hf pe hs).mono fun _ _ _=>pf own C5
theorem vq {g g':DS->Option (List D)} {s:DS->Option D} {δ:DS} (h:g δ=g' δ):bT (vb s (ax g)) δ=bT (vb s (ax g')) δ:=by unfold bT vb ax; rw [h]
end L2
namespace Q1
end Q1
namespace Q1
abbrev Qz:Int×Int:=(0,1)
def Ow (l:List (Int×Int)) (k:Nat):Int×Int:=l.getD k Qz
end Q1
namespace Q1
end Q1
namespace Q1
def tab (n:Nat) (T:Nat->Int):List Int:=(List.range n).map T
theorem GI {n p:Nat} {T:Nat->Int} (h:p < n):(tab n T)[p]?=some (T p):=by
 unfold tab; rw [List.getElem?_map,List.getElem?_range h]; rfl
theorem g0 {n:Nat} {T:Nat->Int}:(tab n T).length=n:=by unfold tab; simp
theorem nu {n:Nat} {T S:Nat->Int} (h:∀ k,k < n->T k=S k):tab n T=tab n S:=List.map_congr_left fun k hk=>h k (List.mem_range.mp hk)
end Q1
namespace Q1
end Q1
namespace GJ
def ch:Nat->Nat->Nat
 | _,0=>1
 | 0,_ + 1=>0
 | n + 1,k + 1=>ch n k + ch n (k + 1)
theorem zA (n:Nat):ch n 0=1:=by cases n <;> rfl
theorem vt:∀ n k,n < k->ch n k=0
 | _,0,h=>absurd h (Nat.not_lt_zero _)
 | 0,_ + 1,_=>rfl
 | n + 1,k + 1,h=>by
   show ch n k + ch n (k + 1)=0
   rw [vt n k (by omega),vt n (k + 1) (by omega)]
def sg (k:Nat):Int:=1 - 2 * ((k:Int) % 2)
def tp (n k:Nat):Int:=(ch n k:Int) * sg k
theorem mm (n:Nat):tp n 0=1:=by unfold tp; rw [zA]; rfl
def row (n:Nat):List Int:=(List.range (n + 1)).map fun j=>(ch n j:Int)
def part (n j:Nat):List Int:=(List.range (j + 1)).map fun i=>(ch (n + 1) i:Int)
end GJ
namespace aK
open PySem L2 Q1
abbrev bt (x:Int):Nat:=Builtin.Int.intBits x
theorem jt {m:Nat} {x:Int} (h:x.natAbs < 2 ^ m):bt x<=m:=intBits_le_iff.mpr h
theorem Kx {m n:Nat} {x y:Int} (h1:bt x<=m) (h2:bt y<=n):bt (x * y)<=m + n:=intBits_mul_le h1 h2
theorem Kz {m:Nat} {x y:Int} (h1:bt x<=m) (h2:bt y<=m):bt (x + y)<=m + 1:=by
 have:=intBits_add_le h1 h2
 rw [Nat.max_self] at this
 exact this
theorem mn {m n:Nat} {x:Int} (h:bt x<=m) (h2:m<=n):bt x<=n:=Nat.le_trans h h2
theorem DW {m n:Nat} {x y:Int} (h1:bt x<=m) (h2:bt y<=n) (h:m + n<=134217728:=by omega):IntMulOk x y:=IntMulOk.of_le h1 h2 h
theorem mo {a b:Int} (h:IntMulOk a b):gv (.int a) (.int b)=some (.int (a * b)):=oO h
theorem gS {a b:Int} (h:0 < b):eu (.int a) (.int b)=some (.int (a % b)):=by
 rw [<- Int.fmod_eq_emod_of_nonneg _ (Int.le_of_lt h)]
 exact oO (C:=fun _ j=>j≠0) (by omega)
theorem zB {a b:Int} (h:0 < b) (hb:bt b<=9000):mY (.int a) (.int b)=some (.int (a / b)):=by
 rw [<- Int.fdiv_eq_ediv_of_nonneg _ (Int.le_of_lt h)]
 exact oO (C:=Cf) ⟨by omega,Ah hb⟩
theorem Io {a:Int} {k:Nat} (h:a.natAbs < 2 ^ 64) (hk:k<=1000000):oP (.int a) (.int k)=some (.int (a ^ k)):=by
 have:=oO (C:=IS) (g:=fun i j=>.int (i ^ j.toNat)) (a:=a) (b:=k) ⟨by omega,by omega,h⟩
 simpa using this
theorem DX {α:Type} {x:α} {xs:List α}:nJ (x :: xs) 0=some x:=iN (j:=0) rfl
theorem Ni {α:Type} {x y:α} {xs:List α}:nJ (x :: y :: xs) 1=some y:=iN (j:=1) rfl
theorem GK {α:Type} {xs:List α} {x:α} (h:xs[xs.length - 1]?=some x):nJ xs (-1)=some x:=Cq h
def fj {β:Type} (x:Option β) (P:β->Prop):Prop:=∃ d,x=some d /\ P d
theorem b9 {β:Type} {x:Option β} {d:β} (h:fj x fun y=>y=d):x=some d:=by
 obtain ⟨y,e,rfl⟩:=h; exact e
theorem fj.mk {β:Type} {x:Option β} {P:β->Prop} {d:β} (e:x=some d) (h:P d):fj x P:=⟨d,e,h⟩
theorem jN {a b:DS->Option Res} {δ δ':DS} (h:a δ=some (.nx δ')):aG a b δ=b δ':=by
 unfold aG; rw [h]; rfl
theorem oB {a b:DS->Option Res} {δ:DS} {d:D} (h:a δ=some (.rt d)):aG a b δ=some (.rt d):=by
 unfold aG; rw [h]; rfl
theorem xY {c:DS->Option Bool} {b:DS->Option Res} (W:Nat->DS->Prop) (Z:DS->Prop) (m:Nat) {δ:DS} (h:W m δ)
  (hs:∀ m δ,W m δ->(c δ=some false /\ Z δ) \/ (c δ=some true /\ ∃ δ' m',b δ=some (.nx δ') /\ m' < m /\ W m' δ')):∃ δ',ir c b δ=some (.nx δ') /\ Z δ':=by
 obtain ⟨q,h1,δ',rfl,h2⟩:=rk W (fun _ q=>∃ δ',q=.nx δ' /\ Z δ') m δ h (fun m δ hW=>by
  rcases hs m δ hW with ⟨a,z⟩ | ⟨a,δ',m',e,l,w⟩
  ·exact .inl ⟨a,δ,rfl,z⟩
  ·exact .inr ⟨a,.inl ⟨δ',m',.inl e,l,w,fun q hq=>hq⟩⟩)
 exact ⟨δ',h1,h2⟩
theorem vv {t:D->DS->Option DS} {b:DS->Option Res} (W:Nat->DS->Prop):∀ (ds:List D) (k:Nat) {δ:DS},W k δ->(∀ i d δ,ds[i]?=some d->W (k + i) δ->∃ gL δ',t d δ=some gL /\ b gL=some (.nx δ') /\ W (k + i + 1) δ')->
  ∃ δ',ki t b ds δ=some (.nx δ') /\ W (k + ds.length) δ'
 | [],k,δ,h,_=>⟨δ,rfl,h⟩
 | d :: ds,k,δ,h,hs=>by
   obtain ⟨gL,δ',e1,e2,h'⟩:=hs 0 d δ rfl h
   obtain ⟨Ox,e3,h2⟩:=vv W ds (k + 1) h' (fun i d δ e w=>by
    have:=hs (i + 1) d δ (by simpa using e) (by rw [show k + (i + 1)=k + 1 + i by omega]; exact w)
    rw [show k + (i + 1) + 1=k + 1 + i + 1 by omega] at this
    exact this)
   refine ⟨Ox,?_,by rw [List.length_cons,show k + (ds.length + 1)=k + 1 + ds.length by omega]; exact h2⟩
   rw [ki,e1,Option.bind_some,e2,Option.bind_some]
   exact e3
theorem oC {α:Type} {t:D->DS->Option DS} {b:DS->Option Res} (enc:α->D) (W:Nat->DS->Prop) (xs:List α) {δ:DS} (h:W 0 δ)
  (hs:∀ i x δ,xs[i]?=some x->W i δ->∃ gL δ',t (enc x) δ=some gL /\ b gL=some (.nx δ') /\ W (i + 1) δ'):∃ δ',ki t b (xs.map enc) δ=some (.nx δ') /\ W xs.length δ':=by
 obtain ⟨δ',e,w⟩:=vv (t:=t) (b:=b) W (xs.map enc) 0 h (fun i d δ e w=>by
  rw [List.getElem?_map] at e
  cases ex:xs[i]? with
  | none=>rw [ex] at e; cases e
  | some x=>
    rw [ex] at e; cases e
    rw [Nat.zero_add] at w ⊢
    exact hs i x δ ex w)
 rw [Nat.zero_add,List.length_map] at w
 exact ⟨δ',e,w⟩
theorem DY {t:D->DS->Option DS} {b:DS->Option Res} {lo:Int} {n:Nat} (W:Nat->DS->Prop) {δ:DS} (h:W 0 δ)
  (hs:∀ i δ,i < n->W i δ->∃ gL δ',t (.int (lo + i)) δ=some gL /\ b gL=some (.nx δ') /\ W (i + 1) δ'):∃ δ',ki t b (fN lo n) δ=some (.nx δ') /\ W n δ':=by
 obtain ⟨δ',e,w⟩:=oC (t:=t) (b:=b) (fun k:Nat=>PyData.int (lo + k)) W (List.range n) h (fun i x δ e w=>by
  have hi:=(List.getElem?_eq_some_iff.mp e).1
  rw [List.length_range] at hi
  rw [List.getElem?_range hi] at e
  cases e
  exact hs i δ hi w)
 rw [List.length_range] at w
 exact ⟨δ',e,w⟩
theorem A4 {c:DS->Option Bool} {b rest:DS->Option Res} {β:Type} {f:Res->Option β} {R:β->Prop} {δ:DS} (W:Nat->DS->Prop) (Z:DS->Prop) (m:Nat) (h:W m δ)
  (hs:∀ m δ,W m δ->(c δ=some false /\ Z δ) \/ (c δ=some true /\ ∃ δ' m',b δ=some (.nx δ') /\ m' < m /\ W m' δ')) (k:∀ δ',Z δ'->fj ((rest δ').bind f) R):fj ((aG (ir c b) rest δ).bind f) R:=by
 obtain ⟨δ',h1,h2⟩:=xY W Z m h hs
 rw [jN h1]
 exact k δ' h2
theorem g4 {α:Type} {t:D->DS->Option DS} {gi:DS->Option (List D)} {b rest:DS->Option Res} {β:Type} {f:Res->Option β} {R:β->Prop} {δ:DS} (enc:α->D) (xs:List α) (W:Nat->DS->Prop) (hi:gi δ=some (xs.map enc)) (h:W 0 δ)
  (hs:∀ i x δ,xs[i]?=some x->W i δ->∃ gL δ',t (enc x) δ=some gL /\ b gL=some (.nx δ') /\ W (i + 1) δ') (k:∀ δ',W xs.length δ'->fj ((rest δ').bind f) R):fj ((aG (eL gi t b) rest δ).bind f) R:=by
 obtain ⟨δ',h1,h2⟩:=oC (t:=t) (b:=b) enc W xs h hs
 rw [jN (δ':=δ') (by unfold eL; rw [hi]; exact h1)]
 exact k δ' h2
theorem ko {t:D->DS->Option DS} {gi:DS->Option (List D)} {b rest:DS->Option Res} {β:Type} {f:Res->Option β} {R:β->Prop} {δ:DS} (lo:Int) (n:Nat) (W:Nat->DS->Prop) (hi:gi δ=some (fN lo n)) (h:W 0 δ)
  (hs:∀ i δ,i < n->W i δ->∃ gL δ',t (.int (lo + i)) δ=some gL /\ b gL=some (.nx δ') /\ W (i + 1) δ') (k:∀ δ',W n δ'->fj ((rest δ').bind f) R):fj ((aG (eL gi t b) rest δ).bind f) R:=by
 obtain ⟨δ',h1,h2⟩:=DY (t:=t) (b:=b) W h hs
 rw [jN (δ':=δ') (by unfold eL; rw [hi]; exact h1)]
 exact k δ' h2
theorem bb {a rest:DS->Option Res} {β:Type} {f:Res->Option β} {R:β->Prop} {δ:DS} (δ':DS) (h:a δ=some (.nx δ')) (k:fj ((rest δ').bind f) R):fj ((aG a rest δ).bind f) R:=by
 rw [jN h]; exact k
theorem nv {c:DS->Option Bool} {a rest:DS->Option Res} {β:Type} {f:Res->Option β} {R:β->Prop} {δ:DS} (h:c δ=some false) (k:fj ((rest δ).bind f) R):fj ((aG (iI c a bC) rest δ).bind f) R:=by
 rw [jN (δ':=δ) (by unfold iI; rw [h]; rfl)]; exact k
theorem sX {c:DS->Option Bool} {a b rest:DS->Option Res} {β:Type} {f:Res->Option β} {R:β->Prop} {δ:DS} (x:Bool) (h:c δ=some x) (k1:x=true->fj ((aG a rest δ).bind f) R) (k2:x=false->fj ((aG b rest δ).bind f) R):fj ((aG (iI c a b) rest δ).bind f) R:=by
 have e:iI c a b δ=if x=true then a δ else b δ:=by unfold iI; rw [h]; rfl
 cases x with
 | true=>rw [if_pos rfl] at e; have:=k1 rfl; unfold aG at this ⊢; rw [e]; exact this
 | false=>rw [if_neg Bool.false_ne_true] at e; have:=k2 rfl; unfold aG at this ⊢; rw [e]; exact this
theorem sY {g:DS->Option D} {rest:DS->Option Res} {β:Type} {f:Res->Option β} {R:β->Prop} {δ:DS} (d:D) (h:g δ=some d) (k:fj (f (.rt d)) R):fj ((aG (bT g) rest δ).bind f) R:=by
 rw [oB (d:=d) (by unfold bT; rw [h]; rfl)]; exact k
theorem ret {g:DS->Option D} {β:Type} {f:Res->Option β} {R:β->Prop} {δ:DS} (d:D) (h:g δ=some d) (k:fj (f (.rt d)) R):fj ((bT g δ).bind f) R:=by
 unfold bT; rw [h]; exact k
theorem bK {a b:DS->Option Res} {δ:DS} {r:Option Res} (δ':DS) (h:a δ=some (.nx δ')) (k:b δ'=r):aG a b δ=r:=(jN h).trans k
theorem ju {c:DS->Option Bool} {a:DS->Option Res} {δ:DS} (h:c δ=some false):iI c a bC δ=some (.nx δ):=by unfold iI; rw [h]; rfl
theorem DZ {rest:DS->Option Res} {δ:DS}:aG bC rest δ=rest δ:=rfl
theorem zC {α β:Type} {f:D->Option D} (enc:α->D) (lz:β->D) (h:α->β):∀ (l:List α),(∀ a∈l,f (enc a)=some (lz (h a)))->CI f (l.map enc)=some ((l.map h).map lz)
 | [],_=>rfl
 | a :: l,hf=>by
   rw [List.map_cons,CI,hf a List.mem_cons_self,Option.bind_some,zC enc lz h l fun b hb=>hf b (List.mem_cons_of_mem _ hb)]
   rfl
theorem g5 {α β:Type} (enc:α->D) (lz:β->D) (h:α->β) {gi:DS->Option (List D)} {ix:List Nat} {ge:DS->Option D} {δ:DS} (l:List α) (hi:gi δ=some (l.map enc)) (hn:l.length<=100000)
  (hf:∀ a∈l,ge (some (enc a) :: gy ix δ)=some (lz (h a))):dj gi ix ge δ=some ((l.map h).map lz):=by
 unfold dj
 rw [hi,Option.bind_some,if_pos (by rw [List.length_map]; exact hn)]
 exact zC enc lz h l hf
theorem pI {α:Type} (enc:α->D) (l:List α) (lo hi:Option Int):∃ m:List α,cutD (l.map enc) lo hi=m.map enc /\ m.length<=l.length /\ ∀ a∈m,a∈l:=by
 unfold cutD
 refine ⟨(l.drop _).take _,by rw [List.map_take,List.map_drop,List.length_map],?_,fun a h=>List.mem_of_mem_drop (List.mem_of_mem_take h)⟩
 rw [List.length_take,List.length_drop]; omega
theorem GL {α:Type} (enc:α->D) (l:List α) (a b:Nat):∃ m:List α,cutD (l.map enc) (some (a:Int)) (some (b:Int))=m.map enc /\ m.length<=b - a /\ m.length<=l.length:=by
 unfold cutD
 refine ⟨(l.drop _).take _,by rw [List.map_take,List.map_drop,List.length_map],?_,?_⟩
 ·rw [List.length_take,HT.y7,HT.y7]; omega
 ·rw [List.length_take,List.length_drop]; omega
theorem Nj (a b:List FI):jD (dP a) (dP b)=some (.bool (decide (a=b))):=by
 show (if (SeqAt.shaped (dP a) && SeqAt.shaped (dP b))=true then some (PyData.bool (PyData.eqv (dP a) (dP b))) else none)=_
 rw [HH,HH,Jx]; rfl
theorem kq (a b:Int):jD (.int a) (.int b)=some (.bool (decide (a=b))):=rfl
theorem D0 {a b:D} {c:Bool} (h:jD a b=some (.bool c)):ES a b=some (.bool (!c)):=by unfold ES; rw [h]; rfl
theorem h8 {g:DS->Option (List D)} {δ:DS} {n:Nat} (h:g δ=some [.int (n:Nat)]) (hn:n<=100000):cT g δ=some (fN 0 n):=by
 unfold cT
 rw [h,Option.bind_some]
 show (if -(2 ^ 62)<=((n:Nat):Int) /\ ((n:Nat):Int) < 2 ^ 62 then some (fN 0 ((n:Nat):Int).toNat) else none)=_
 rw [Int.toNat_natCast,if_pos ⟨by omega,by omega⟩]
theorem A5 {g:DS->Option (List D)} {δ:DS} {a b:Int} (h:g δ=some [.int a,.int b]) (h1: -100000<=a) (h2:a<=100000) (h3: -100000<=b) (h4:b<=100000):oy g δ=some (fN a (b - a).toNat):=by
 unfold oy
 rw [h,Option.bind_some]
 show (if -(2 ^ 62)<=a /\ a < 2 ^ 62 /\ -(2 ^ 62)<=b /\ b < 2 ^ 62 then some (fN a (b - a).toNat) else none)=_
 rw [if_pos ⟨by omega,by omega,by omega,by omega⟩]
theorem call_of {G:List D->Option D} {n:Nat} {g:DS->Option (List D)} {δ:DS} {ds:List D} {r:Option D} (h:g δ=some ds) (hn:ds.length=n) (hG:G ds=r):bQ G n g δ=r:=by
 unfold bQ; rw [h,Option.bind_some,if_pos hn]; exact hG
theorem bO {G:List D->Option (List D)} {n:Nat} {g:DS->Option (List D)} {δ:DS} {ds:List D} {r:Option (List D)} (h:g δ=some ds) (hn:ds.length=n) (hG:G ds=r):bj G n g δ=r:=by
 unfold bj; rw [h,Option.bind_some,if_pos hn]; exact hG
theorem aI {g:DS->Option (List D)} {δ:DS} {l:List D} (h:g δ=some l):ax g δ=some (.list l):=by unfold ax; rw [h]; rfl
theorem cons_of {a:DS->Option D} {r:DS->Option (List D)} {δ:DS} {x:D} {xs:List D} (h:a δ=some x) (h2:r δ=some xs):aa a r δ=some (x :: xs):=by unfold aa; rw [h,h2]; rfl
theorem aS {i:Nat} {g:DS->Option D} {δ:DS} {d:D} (h:g δ=some d):a9 i g δ=some (.nx (δ.set i (some d))):=by unfold a9; rw [h]; rfl
theorem sZ (l:List D):df [.list l]=some (.int l.length):=rfl
theorem xZ (l:List D):df [.tuple l]=some (.int l.length):=rfl
theorem Ip (l:List D) (i:Int):eX (.list l) (.int i)=nJ l i:=rfl
theorem nW {a b:DS->Option Bool} {δ:DS} {r:Option Bool} (h1:a δ=some false) (h2:b δ=r):wL a b δ=r:=by unfold wL; rw [h1]; exact h2
theorem KA {a b:DS->Option Bool} {δ:DS} {r:Option Bool} (h1:a δ=some true) (h2:b δ=r):Al a b δ=r:=by unfold Al; rw [h1]; exact h2
theorem eJ {a:DS->Option Bool} {δ:DS} {x:Bool} (h:a δ=some x):jE a δ=some (!x):=by unfold jE; rw [h]; rfl
theorem bA {g:DS->Option D} {δ:DS} {b:Bool} (h:g δ=some (.bool b)):gB g δ=some b:=by unfold gB; rw [h]; rfl
theorem gg {g:DS->Option D} {δ:DS} {b:Bool} (h:g δ=some (.bool b)):iJ g δ=some b:=by unfold iJ; rw [h]; rfl
theorem au {f:D->D->Option D} {a b:DS->Option D} {δ:DS} {x y:D} {r:Option D} (h1:a δ=some x) (h2:b δ=some y) (h3:f x y=r):g2 f a b δ=r:=by unfold g2; rw [h1,h2]; exact h3
theorem GN {a b:DS->Option D} {δ:DS} {r:Option D} (h1:a δ=some (.bool true)) (h2:b δ=r):nM a b δ=r:=by unfold nM; rw [bA h1]; exact h2
theorem D1 {f f':D->D->Option D} {a b c:DS->Option D} {δ:DS} {x y z:D} {r:Option D} (h1:a δ=some x) (h2:b δ=some y) (h3:f x y=some (.bool true)) (h4:c δ=some z) (h5:f' y z=r):iw f f' a b c δ=r:=by
 unfold iw; rw [h1,h2,Option.bind_some,Option.bind_some,h3,Option.bind_some,h4]; exact h5
abbrev fk:List Str:=["NoEnd"]
abbrev tf:List Str:=["NoNumber","NoPlan","TooLong","NoText","NoEnd","TooMany","NoRow","NoTelling","NoLot","NotOnly","Only","NoShares","NoDeed","NoName","NoDraw"]
abbrev pJ:DS->Option Res:=(bT (ax (Gd (ax (kM eB (ax (lq fA (aa (ae 0) ah))) (ax (dj (aQ (ae 0)) [] (g2 bo (ae 0) (gC (.int (1)))))))))))
def eE:List D->Option (List D):=k7 1 pJ
theorem vw (a0:D):eE [a0]=(pJ [some a0]).bind kZ:=rfl
abbrev jO (f:Addr) (c:Ca) (q:Str) (G:List D->Option D):DS->Option Res:=(aG (l9 1 (bw ah))
  (aG (a9 2 (ax (bw (aa (gC (.int (0))) ah))))
  (ir (iJ (gC (.bool true))) (aG (a9 3 (fI df (aa (ae 1) ah)))
  (aG (a9 4 (ax (ba (aQ (ae 2)) 1 [0,3] (aD 0) (iJ (nq f c q G 2 1 (aa (ae 0) (aa (ae 2) ah)))) (ae 0))))
  (aG (iI (gB (g2 jD (fI df (aa (ae 4) ah)) (gC (.int (0))))) (bT (fI jl (aa (ae 1) ah))) bC)
  (aG (iI (gB (g2 jD (ae 3) (gC (.int (24))))) (fun _=>none) bC)
  (aG (uQ 1 (fI jl (aa (ae 4) ah)))
  (a9 2 (ax (bj eE 1 (aa (ae 4) ah))))))))))))
def cV (f:Addr) (c:Ca) (q:Str) (G:List D->Option D):List D->Option D:=gQ 5 (jO f c q G)
theorem ti (f:Addr) (c:Ca) (q:Str) (G:List D->Option D) (a0:D):cV f c q G [a0]=(jO f c q G [some a0,none,none,none,none]).bind iK:=rfl
abbrev kr:DS->Option Res:=(aG (zq 1 Dc)
  (aG (eL (aQ (ae 0)) (aD 2)
   (nQ 1 (ae 2) (gC (.bool true))))
  (aG (iI (gB (Ge false (bB (aa (gC (.int (0))) (aa (gC (.int (0))) ah))) (ae 1))) (fun _=>none) bC)
  (bT (Dx cV "plan_from.<locals>.<lambda>" 1 (zt (bB (aa (ae 0) (aa (g2 gP (ae 1) (ae 0)) ah))) (ae 2)))))))
def du:List D->Option D:=gQ 3 kr
theorem vz (a0:D):du [a0]=(kr [some a0,none,none]).bind iK:=rfl
abbrev ny:DS->Option Res:=(aG (a9 2 (g2 bo (g2 eX (ae 1) (gC (.int (0)))) (g2 eX (ae 1) (gC (.int (1))))))
  (bT (nM (iw Pa Aj (gC (.int (0))) (ae 2) (fI df (aa (ae 0) ah))) (g2 Bp (g2 eX (ae 1) (gC (.int (0)))) (g2 eX (ae 0) (ae 2))))))
def ia:List D->Option D:=gQ 3 ny
theorem A6 (a0 a1:D):ia [a0,a1]=(ny [some a0,some a1,none]).bind iK:=rfl
abbrev nz:DS->Option Res:=(aG (l9 1 (bw (aa (bB (aa (gC (.int (0))) (aa (gC (.int (0))) ah))) ah)))
  (aG (eL (Dj (ae 0)) (iu 2 (bY (aD 2) (bY (aD 3) iQ)))
   (As 1 (dj (aQ (ax (bj eE 1 (aa (ae 3) ah)))) [2] (bB (aa (ae 0) (aa (g2 gP (ae 1) (ae 0)) ah))))))
  (bT (ae 1))))
def fQ:List D->Option (List D):=k7 4 nz
theorem A7 (a0:D):fQ [a0]=(nz [some a0,none,none,none]).bind kZ:=rfl
abbrev ya:DS->Option Res:=(bT (ax (ba (aQ (ax (bj fQ 1 (aa (ae 0) ah)))) 1 [0] (aD 0) (jE (iJ (bQ ia 2 (aa (ae 1) (aa (ae 0) ah))))) (ae 0))))
def eP:List D->Option (List D):=k7 1 ya
theorem KC (a0:D):eP [a0]=(ya [some a0]).bind kZ:=rfl
abbrev lA:DS->Option Res:=(aG (l9 1 (bw ah))
  (aG (eL (sJ (ae 0)) (iu 2 (bY (aD 2) (bY (aD 3) iQ)))
   (As 1 (dj (aQ (ae 3)) [2] (bB (aa (ae 0) (aa (g2 gP (ae 1) (ae 0)) ah))))))
  (bT (ae 1))))
def cq:List D->Option (List D):=k7 4 lA
theorem yb (a0:D):cq [a0]=(lA [some a0,none,none,none]).bind kZ:=rfl
abbrev g6:DS->Option Res:=(aG (a9 2 (ax (bj eP 1 (aa (ae 0) ah))))
  (eL (aQ (ae 1)) (aD 3)
   (iI (gB (g2 (mf true) (ae 3) (ae 2))) (xT "NoEnd") bC)))
def dY:List D->Option D:=gQ 4 g6
theorem qw (a0 a1:D):dY [a0,a1]=(g6 [some a0,some a1,none,none]).bind iK:=rfl
abbrev jP:DS->Option Res:=(aG (a9 2 (ax (bj eP 1 (aa (ae 0) ah))))
  (eL (aQ (ae 1)) (aD 3)
   (iI (gB (g2 (mf true) (ae 3) (ae 2))) (fun _=>none) bC)))
def fD:List D->Option D:=gQ 4 jP
theorem tj (a0 a1:D):fD [a0,a1]=(jP [some a0,some a1,none,none]).bind iK:=rfl
abbrev tm:DS->Option Res:=(aG (iI (gB (g2 jD (ae 1) (gC (.str "b")))) (bT (bB (aa (g2 bo (g2 eX (ae 0) (gC (.int (0)))) (gC (.int (1)))) (aa (g2 eX (ae 0) (gC (.int (1)))) ah)))) bC)
  (bT (bB (aa (g2 eX (ae 0) (gC (.int (0)))) (aa (g2 bo (g2 eX (ae 0) (gC (.int (1)))) (gC (.int (1)))) ah)))))
def g7:List D->Option D:=gQ 2 tm
theorem zD (a0 a1:D):g7 [a0,a1]=(tm [some a0,some a1]).bind iK:=rfl
abbrev jQ:DS->Option Res:=(aG (zq 2 Dc)
  (aG (eL (aQ (ax (bj eP 1 (aa (ae 0) ah)))) (aD 3)
   (nQ 2 (ae 3) (Cy (gB (g2 (mf false) (ae 3) (ae 1))) (gC (.str "refused")) (gC (.str "let by")))))
  (aG (eL (m9 (ax (bj cq 1 (aa (ae 0) ah)))) (aD 4)
   (aG (a9 5 (gR (ae 2) (bQ g7 2 (aa (ae 4) (aa (gC (.str "b")) ah)))))
  (nQ 2 (ae 4) (Cy (gB (g2 jD (ae 5) (gR (ae 2) (bQ g7 2 (aa (ae 4) (aa (gC (.str "g")) ah)))))) (ae 5) (gC (.str "not settled"))))))
  (bT (ae 2)))))
def cW:List D->Option D:=gQ 6 jQ
theorem tq (a0 a1:D):cW [a0,a1]=(jQ [some a0,some a1,none,none,none,none]).bind iK:=rfl
abbrev iV:DS->Option Res:=(aG (ly (bQ dY 2 (aa (ae 0) (aa (ae 1) ah))))
  (aG (a9 2 (bQ cW 2 (aa (ae 0) (aa (ae 1) ah))))
  (aG (a9 3 (bQ du 1 (aa (ax (ba (aQ (ax (bj cq 1 (aa (ae 0) ah)))) 1 [2] (aD 0) (wL (gB (g2 jD (ae 0) (bB (aa (gC (.int (0))) (aa (gC (.int (0))) ah))))) (gB (g2 jD (gR (ae 1) (ae 0)) (gC (.str "not settled"))))) (ae 0))) ah)))
  (bT (bB (aa (ae 3) (aa (ax (ba (aQ (ax (bj eP 1 (aa (ae 3) ah)))) 1 [2] (aD 0) (gB (g2 jD (gR (ae 1) (ae 0)) (gC (.str "refused")))) (ae 0))) ah)))))))
def cR:List D->Option D:=gQ 4 iV
theorem tu (a0 a1:D):cR [a0,a1]=(iV [some a0,some a1,none,none]).bind iK:=rfl
abbrev ku:DS->Option (D×List D):=(rL (zi (bQ fD 2 (aa (ae 0) (aa (ae 1) ah))))
  (rL (a9 2 (bQ cW 2 (aa (ae 0) (aa (ae 1) ah))))
  (rL (a9 3 (bQ du 1 (aa (ax (ba (aQ (ax (bj cq 1 (aa (ae 0) ah)))) 1 [2] (aD 0) (wL (gB (g2 jD (ae 0) (bB (aa (gC (.int (0))) (aa (gC (.int (0))) ah))))) (gB (g2 jD (gR (ae 1) (ae 0)) (gC (.str "not settled"))))) (ae 0))) ah)))
  (DA (ae 3) (ba (aQ (ax (bj eP 1 (aa (ae 3) ah)))) 1 [2] (aD 0) (gB (g2 jD (gR (ae 1) (ae 0)) (gC (.str "refused")))) (ae 0))))))
def gD:List D->Option (D×List D):=Ii 4 ku
theorem vA (a0 a1:D):gD [a0,a1]=ku [some a0,some a1,none,none]:=rfl
abbrev lB:DS->Option Res:=(aG (iI (gB (g2 Aj (ae 1) (fI df (aa (ae 0) ah)))) (bT (g2 eX (ae 0) (ae 1))) bC)
  (bT (gC (.int (0)))))
def dv:List D->Option D:=gQ 2 lB
theorem yc (a0 a1:D):dv [a0,a1]=(lB [some a0,some a1]).bind iK:=rfl
abbrev jR:DS->Option Res:=(aG (l9 3 (bw ah))
  (aG (eL (cT (aa (ae 2) ah)) (aD 4)
   (aG (uQ 3 (g2 eu (ae 0) (ae 1)))
  (a9 0 (g2 mY (ae 0) (ae 1)))))
  (bT (ae 3))))
def dZ:List D->Option (List D):=k7 5 jR
theorem tw (a0 a1 a2:D):dZ [a0,a1,a2]=(jR [some a0,some a1,some a2,none,none]).bind kZ:=rfl
abbrev kx:DS->Option Res:=(aG (l9 3 (bw ah))
  (aG (eL (cT (aa (ae 2) ah)) (aD 4)
   (aG (a9 5 (g2 eu (g2 bo (g2 bo (g2 gv (g2 eu (ae 0) (gC (.int (1000003)))) (gC (.int (48271)))) (g2 gv (g2 gv (ae 4) (ae 4)) (gC (.int (69621))))) (g2 gv (ae 4) (gC (.int (16807))))) (gC (.int (2147483647)))))
  (uQ 3 (g2 eu (g2 mY (g2 eu (g2 bo (g2 gv (ae 5) (gC (.int (39373)))) (ae 0)) (gC (.int (2147483629)))) (gC (.int (13)))) (ae 1)))))
  (bT (ae 3))))
def dw:List D->Option (List D):=k7 6 kx
theorem vB (a0 a1 a2:D):dw [a0,a1,a2]=(kx [some a0,some a1,some a2,none,none,none]).bind kZ:=rfl
abbrev lC:DS->Option Res:=(aG (a9 2 (g2 mY (ae 0) (gC (.int (4)))))
  (aG (a9 3 (g2 bo (gC (.int (100))) (g2 gv (gC (.int (200))) (fI FR (aa (g2 Bo (ae 1) (gC (.int (12)))) ah)))))
  (aG (a9 4 (ax (bj dw 3 (aa (ae 2) (aa (gC (.int (3))) (aa (ae 3) ah))))))
  (aG (iI (gB (g2 Pb (fI CD (aa (ae 0) ah)) (g2 oP (gC (.int (10))) (gC (.int (18)))))) (a9 4 (ax (bj dZ 3 (aa (ae 2) (aa (gC (.int (3))) (aa (ae 3) ah)))))) bC)
  (aG (l9 5 (bw (aa (bB (aa (gC (.int (0))) ah)) ah)))
  (aG (a9 6 (ax (bw (aa (gC (.int (0))) (aa (gC (.int (1))) ah)))))
  (aG (a9 7 (gC (.int (0))))
  (aG (ir (Al (gB (g2 Aj (fI df (aa (ae 5) ah)) (ae 1))) (gB (g2 Bo (fI df (aa (ae 6) ah)) (gC (.int (0)))))) (aG (a9 8 (ax (ba (eO (ae 6)) 2 [4,3,7] (iu 2 (bY (aD 0) (bY (aD 1) iQ))) (gB (g2 Bo (g2 eX (ae 2) (g2 eu (g2 bo (ae 4) (ae 0)) (ae 3))) (gC (.int (0))))) (ae 1))))
  (aG (a9 7 (g2 bo (ae 7) (fI df (aa (ae 6) ah))))
  (aG (iI (gB (g2 Bo (g2 eu (ae 0) (gC (.int (4)))) (gC (.int (1))))) (a9 8 (ax (m7 (ae 6) (fB (g2 eX (ae 4) (g2 eu (ae 7) (ae 3)))) (fB (fI rj (aa (gC (.int (0))) (aa (g2 gP (fI df (aa (ae 6) ah)) (g2 eX (ae 4) (g2 eu (g2 bo (ae 7) (gC (.int (1)))) (ae 3)))) ah))))))) bC)
  (aG (a9 6 (ax (Gd (ax (kM eB (ae 8) (ax (dj (aQ (ae 8)) [] (g2 bo (ae 0) (gC (.int (1)))))))))))
  (iI (gB (g2 Bo (fI df (aa (ae 8) ah)) (gC (.int (0))))) (uQ 5 (fI jl (aa (ae 8) ah))) bC))))))
  (bT (fI jl (aa (ae 5) ah)))))))))))
def iB:List D->Option D:=gQ 9 lC
theorem yd (a0 a1:D):iB [a0,a1]=(lC [some a0,some a1,none,none,none,none,none,none,none]).bind iK:=rfl
abbrev lD:DS->Option Res:=(aG (iI (gB (g2 jD (g2 eu (g2 mY (ae 0) (gC (.int (7)))) (gC (.int (8)))) (gC (.int (1))))) (bT (g2 bo (gC (.int (1))) (g2 eu (g2 mY (ae 0) (gC (.int (56)))) (gC (.int (12)))))) bC)
  (bT (g2 bo (gC (.int (1))) (g2 eu (ae 0) (gC (.int (7)))))))
def iC:List D->Option D:=gQ 1 lD
theorem pK (a0:D):iC [a0]=(lD [some a0]).bind iK:=rfl
abbrev lE:DS->Option Res:=(aG (l9 1 (bw ah))
  (aG (eL (oy (aa (gC (.int (1))) (aa (g2 bo (fI df (aa (ae 0) ah)) (gC (.int (1)))) ah))) (aD 2)
   (aG (a9 3 (bB ah))
  (aG (iI (gB (g2 Aj (ae 2) (fI df (aa (ae 0) ah)))) (a9 3 (g2 eX (ae 0) (ae 2))) bC)
  (aG (a9 4 (ax (Gd (ax (kM eB (ax (lq fA (aa (g2 eX (ae 0) (g2 gP (ae 2) (gC (.int (1))))) ah))) (ax (dj (aQ (g2 eX (ae 0) (g2 gP (ae 2) (gC (.int (1)))))) [] (g2 bo (ae 0) (gC (.int (1)))))))))))
  (As 1 (ba (aQ (ae 4)) 1 [2,3] (aD 0) (gB (g2 sj (ae 0) (ae 2))) (bB (aa (ae 0) (aa (g2 gP (ae 1) (ae 0)) ah)))))))))
  (bT (ae 1))))
def cu:List D->Option (List D):=k7 5 lE
theorem ye (a0:D):cu [a0]=(lE [some a0,none,none,none,none]).bind kZ:=rfl
abbrev lF:DS->Option Res:=(aG (zq 1 (Dd (bB (aa (gC (.int (0))) (aa (gC (.int (0))) ah))) (gC (.int (1)))))
  (aG (eL (sJ (ae 0)) (iu 2 (bY (aD 2) (bY (aD 3) iQ)))
   (eL (aQ (ae 3)) (aD 4)
   (aG (a9 5 (gR (ae 1) (bB (aa (ae 4) (aa (g2 gP (ae 2) (ae 4)) ah)))))
  (eL (aQ (bB (aa (bB (aa (g2 bo (ae 4) (gC (.int (1)))) (aa (g2 gP (ae 2) (ae 4)) ah))) (aa (bB (aa (ae 4) (aa (g2 bo (g2 gP (ae 2) (ae 4)) (gC (.int (1)))) ah))) ah)))) (aD 6)
   (nQ 1 (ae 6) (g2 bo (pw (ae 1) (ae 6) (gC (.int (0)))) (ae 5)))))))
  (bT (ae 1))))
def fR:List D->Option D:=gQ 7 lF
theorem yf (a0:D):fR [a0]=(lF [some a0,none,none,none,none,none,none]).bind iK:=rfl
abbrev ky:DS->Option Res:=(aG (a9 2 (ax (bw (aa (gC (.int (1))) ah))))
  (aG (eL (cT (aa (ae 1) ah)) (aD 3)
   (a9 2 (ax (ba (Gg (ax (kM eB (ae 2) (ax (bw (aa (gC (.int (0))) ah))))) (ax (kM eB (ax (bw (aa (gC (.int (0))) ah))) (ae 2)))) 2 [] (iu 2 (bY (aD 0) (bY (aD 1) iQ))) (fun _=>some true) (g2 gP (ae 0) (ae 1))))))
  (bT (ax (kM eB (ax (dj (cT (aa (ae 0) ah)) [] (gC (.int (0))))) (ae 2))))))
def gE:List D->Option (List D):=k7 4 ky
theorem vC (a0 a1:D):gE [a0,a1]=(ky [some a0,some a1,none,none]).bind kZ:=rfl
abbrev kz:DS->Option Res:=(aG (a9 3 (fI rj (aa (fI df (aa (ae 0) ah)) (aa (fI df (aa (ae 1) ah)) ah))))
  (aG (l9 4 (bw ah))
  (aG (eL (cT (aa (ae 3) ah)) (aD 5)
   (uQ 4 (g2 bo (g2 eX (ax (kM eB (ae 0) (ax (dj (cT (aa (ae 3) ah)) [] (gC (.int (0))))))) (ae 5)) (g2 gv (ae 2) (g2 eX (ax (kM eB (ae 1) (ax (dj (cT (aa (ae 3) ah)) [] (gC (.int (0))))))) (ae 5))))))
  (bT (ae 4)))))
def dz:List D->Option (List D):=k7 6 kz
theorem vD (a0 a1 a2:D):dz [a0,a1,a2]=(kz [some a0,some a1,some a2,none,none,none]).bind kZ:=rfl
abbrev pL (y:Addr):DS->Option Res:=(aG (a9 1 (ax (bw (aa (bV fk "NoNumber" (ae 0)) (aa (bV fk "NoPlan" (ae 0)) (aa (bV fk "TooLong" (ae 0)) (aa (bV fk "NoText" (ae 0)) ah)))))))
  (aG (a9 1 (ax (kM eB (ae 1) (ax (bw (aa (bV fk "NoEnd" (ae 0)) (aa (bV fk "TooMany" (ae 0)) (aa (bV fk "NoRow" (ae 0)) (aa (bV fk "NoTelling" (ae 0)) ah)))))))))
  (aG (a9 1 (ax (kM eB (ae 1) (ax (bw (aa (bV fk "NoLot" (ae 0)) (aa (bV fk "NotOnly" (ae 0)) (aa (bV fk "Only" (ae 0)) (aa (bV fk "NoShares" (ae 0)) ah)))))))))
  (aG (a9 1 (ax (kM eB (ae 1) (ax (bw (aa (bV fk "NoDeed" (ae 0)) (aa (bV fk "NoName" (ae 0)) (aa (bV fk "NoDraw" (ae 0)) ah))))))))
  (aG (a9 2 (ax (bw (vo ["NoNumber","NoPlan","TooLong","NoText","NoEnd","TooMany","NoRow","NoTelling","NoLot","NotOnly"]))))
  (aG (a9 2 (ax (kM eB (ae 2) (ax (bw (vo ["Only","NoShares","NoDeed","NoName","NoDraw"]))))))
  (aG (iI (jE (iJ (bV fk "ValueError" (ae 0)))) (bT (gC (.str "other"))) bC)
  (bT (vb (gC (.str "")) (ax (ba (mj y 0 (aa (gC (.int (15))) ah)) 1 [2,1] (aD 0) (iJ (g2 eX (ae 2) (ae 0))) (g2 eX (ae 1) (ae 0)))))))))))))
def fS (y:Addr):List D->Option D:=gQ 3 (pL y)
theorem D2 (a:Addr) (c:Str) (R:DS->Option Res) (hc:c∈fk):(aG (a9 1 (ax (bw (aa (bV fk "NoNumber" (ae 0)) (aa (bV fk "NoPlan" (ae 0)) (aa (bV fk "TooLong" (ae 0)) (aa (bV fk "NoText" (ae 0)) ah)))))))
  (aG (a9 1 (ax (kM eB (ae 1) (ax (bw (aa (bV fk "NoEnd" (ae 0)) (aa (bV fk "TooMany" (ae 0)) (aa (bV fk "NoRow" (ae 0)) (aa (bV fk "NoTelling" (ae 0)) ah)))))))))
  (aG (a9 1 (ax (kM eB (ae 1) (ax (bw (aa (bV fk "NoLot" (ae 0)) (aa (bV fk "NotOnly" (ae 0)) (aa (bV fk "Only" (ae 0)) (aa (bV fk "NoShares" (ae 0)) ah)))))))))
  (aG (a9 1 (ax (kM eB (ae 1) (ax (bw (aa (bV fk "NoDeed" (ae 0)) (aa (bV fk "NoName" (ae 0)) (aa (bV fk "NoDraw" (ae 0)) ah))))))))
  (aG (a9 2 (ax (bw (vo ["NoNumber","NoPlan","TooLong","NoText","NoEnd","TooMany","NoRow","NoTelling","NoLot","NotOnly"]))))
  (aG (a9 2 (ax (kM eB (ae 2) (ax (bw (vo ["Only","NoShares","NoDeed","NoName","NoDraw"]))))))
  (aG (iI (jE (iJ (bV fk "ValueError" (ae 0)))) (bT (gC (.str "other"))) bC) R))))))) [some (EW a c),none,none]=R [some (EW a c),some (.list (tf.map fun T=>.bool (Lw c T))),some (.list (tf.map .str))]:=by
 rcases List.mem_cons.mp hc with rfl | hc
 ·kernel_rfl
 cases hc
theorem yg (a:Addr):fS a [EW a "NoEnd"]=some (.str "NoEnd"):=by
 refine Eq.trans (congrArg (fun r=>Option.bind r iK) ((D2 a "NoEnd" _ (by simp)).trans (vq (DU (qv rfl))))) ?_
 kernel_rfl
theorem KD (a:Addr) (c:Str) (hc:c∈fk):fS a [EW a c]=some (.str c):=by
 rcases List.mem_cons.mp hc with rfl | hc
 ·exact yg a
 cases hc
abbrev lG:DS->Option Res:=(aG (a9 2 (ax (ba (eO (ae 0)) 2 [1] (iu 2 (bY (aD 0) (bY (aD 1) iQ))) (gB (g2 jD (g2 Gs (g2 FW (g2 mY (ae 2) (gC (.int (12)))) (ae 0)) (gC (.int (1)))) (gC (.int (1))))) (ae 1))))
  (aG (iI (gB (g2 jD (g2 eu (ae 1) (gC (.int (12)))) (gC (.int (1))))) (a9 2 (ax (lq fA (aa (ae 0) ah)))) bC)
  (aG (iI (gB (g2 jD (g2 eu (ae 1) (gC (.int (12)))) (gC (.int (2))))) (a9 2 (ax (bw ah))) bC)
  (aG (iI (gB (g2 Bp (g2 eu (ae 1) (gC (.int (12)))) (bB (aa (gC (.int (3))) (aa (gC (.int (4))) ah))))) (a9 2 (ax (kM eB (ax (pA (ae 2))) (ax (m7 (ae 2) gX (fB (gC (.int (1))))))))) bC)
  (bT (ae 2))))))
def fT:List D->Option D:=gQ 3 lG
theorem yh (a0 a1:D):fT [a0,a1]=(lG [some a0,some a1,none]).bind iK:=rfl
abbrev lH:DS->Option Res:=(aG (iI (jE (gB (iw Aj Aj (g1 Ak (g2 oP (gC (.int (10))) (gC (.int (18))))) (ae 0) (g2 oP (gC (.int (10))) (gC (.int (18))))))) (bT (g2 mY (ae 0) (gC (.int (2))))) bC)
  (aG (a9 1 (ax (bj dw 3 (aa (ae 0) (aa (gC (.int (1000003))) (aa (gC (.int (4))) ah))))))
  (bT (g2 bo (g2 eX (ae 1) (gC (.int (0)))) (g2 gv (gC (.int (1000003))) (g2 bo (g2 eX (ae 1) (gC (.int (1)))) (g2 gv (gC (.int (1000003))) (g2 bo (g2 eX (ae 1) (gC (.int (2)))) (g2 gv (gC (.int (1000003))) (g2 eX (ae 1) (gC (.int (3)))))))))))))
def fU:List D->Option D:=gQ 2 lH
theorem yi (a0:D):fU [a0]=(lH [some a0,none]).bind iK:=rfl
abbrev i6:DS->Option Res:=(aG (iI (wL (jE (iJ (xl "tuple" (ae 0)))) (wL (jE (gB (iw Pa Pa (gC (.int (1))) (fI df (aa (ae 0) ah)) (fI df (aa (ae 1) ah))))) (gB (g2 ES (g2 eX (ae 0) (gC (.int (0)))) (bB (aa (gC (.int (0))) ah)))))) (bT (gC (.bool false))) bC)
  (aG (a9 2 (ax (bw (aa (gC (.int (0))) ah))))
  (aG (eL (sJ (ae 0)) (iu 2 (bY (aD 3) (bY (aD 4) iQ)))
   (aG (iI (wL (jE (iJ (xl "tuple" (ae 4)))) (wL (gB (g2 jD (fI df (aa (ae 4) ah)) (gC (.int (0))))) (gB (g2 ES (ax (lq fA (aa (ae 4) ah))) (ax (Gd (ae 4))))))) (bT (gC (.bool false))) bC)
  (aG (iI (jE (iJ (fI AH (aa (ax (dj (aQ (ae 4)) [] (nM (xl "int" (ae 0)) (g1 Mp (xl "bool" (ae 0)))))) ah)))) (bT (gC (.bool false))) bC)
  (aG (iI (jE (iJ (fI AH (aa (ax (dj (aQ (ae 4)) [2,1,3] (nM (g2 Bp (ae 0) (ae 1)) (g2 Bp (ae 0) (g2 eX (ae 2) (ae 3)))))) ah)))) (bT (gC (.bool false))) bC)
  (a9 2 (ax (kM eB (ax (lq fA (aa (ae 4) ah))) (ax (dj (aQ (ae 4)) [] (g2 bo (ae 0) (gC (.int (1)))))))))))))
  (bT (gC (.bool true))))))
def eF:List D->Option D:=gQ 5 i6
theorem qy (a0 a1:D):eF [a0,a1]=(i6 [some a0,some a1,none,none,none]).bind iK:=rfl
abbrev lI:DS->Option Res:=(aG (a9 2 (bQ fR 1 (aa (ae 0) ah)))
  (aG (a9 3 (ax (bw ah)))
  (aG (eL (aQ (ax (bj cu 1 (aa (ae 0) ah)))) (aD 4)
   (iI (gB (g2 (mf false) (ae 4) (ae 1))) (a9 3 (ax (bj dz 3 (aa (ae 3) (aa (ax (bj gE 2 (aa (g2 eX (ae 4) (gC (.int (0)))) (aa (g2 eX (ae 4) (gC (.int (1)))) ah)))) (aa (gR (ae 2) (ae 4)) ah)))))) bC))
  (bT (ae 3)))))
def eQ:List D->Option D:=gQ 5 lI
theorem yj (a0 a1:D):eQ [a0,a1]=(lI [some a0,some a1,none,none,none]).bind iK:=rfl
abbrev kA:DS->Option Res:=(aG (a9 2 (ax (lq fA (aa (ae 1) ah))))
  (aG (a9 3 (M5 (pB gD 2 (aa (ae 0) (aa (ae 2) ah)))))
  (aG (iI (wL (jE (iJ (xl "tuple" (ae 3)))) (wL (gB (g2 ES (fI df (aa (ae 3) ah)) (gC (.int (2))))) (wL (gB (g2 ES (ae 2) (ae 1))) (jE (iJ (bQ eF 2 (aa (g2 eX (ae 3) (gC (.int (0)))) (aa (ae 0) ah)))))))) (bT (gC (.bool false))) bC)
  (aG (a9 4 (g2 eX (ae 3) (gC (.int (1)))))
  (aG (iI (wL (jE (iJ (xl "list" (ae 4)))) (gB (g2 ES (ae 4) (ax (ba (aQ (ax (bj cu 1 (aa (g2 eX (ae 3) (gC (.int (0)))) ah)))) 1 [4] (aD 0) (gB (g2 (mf false) (ae 0) (ae 1))) (ae 0)))))) (bT (gC (.bool false))) bC)
  (aG (a9 5 (ax (bj dz 3 (aa (bQ eQ 2 (aa (ae 0) (aa (ae 1) ah))) (aa (bQ eQ 2 (aa (g2 eX (ae 3) (gC (.int (0)))) (aa (ae 4) ah))) (aa (g1 Ak (gC (.int (1)))) ah))))))
  (bT (fI AH (aa (ax (dj (aQ (ae 5)) [] (g2 jD (ae 0) (gC (.int (0)))))) ah)))))))))
def gF:List D->Option D:=gQ 6 kA
theorem vE (a0 a1:D):gF [a0,a1]=(kA [some a0,some a1,none,none,none,none]).bind iK:=rfl
abbrev k8 (a:Addr):DS->Option Res:=(bT (g2 jD (bQ (fS a) 1 (aa (ae 2) ah)) (gC (.str "NoEnd"))))
theorem pM (a:Addr) (c:Str) (d:D) (h:jM fk (fun _=>.bool true) c=some d):k8 a ((List.replicate 3 none).set 2 (some (EW a c)))=some (.rt d):=by
 obtain ⟨hc,rfl⟩:=nV h
 exact (by cases List.mem_singleton.mp hc; exact congrArg (fun z:Option D=>z.bind fun d=>some (Res.rt d)) (au (call_of (cons_of rfl rfl) rfl (KD a "NoEnd" hc)) rfl (show jD (.str "NoEnd") (.str "NoEnd")=some (.bool true) by kernel_rfl)))
abbrev gj:DS->Option Res:=(aG (DR (ly (bQ cR 2 (aa (ae 0) (aa (ae 1) ah)))) (jM fk (fun _=>.bool true)))
  (bT (gC (.bool false))))
def eG:List D->Option D:=gQ 3 gj
theorem qz (a0 a1:D):eG [a0,a1]=(gj [some a0,some a1,none]).bind iK:=rfl
abbrev D3:DS->Option Res:=(aG (a9 1 (bQ iB 2 (aa (bQ dv 2 (aa (ae 0) (aa (gC (.int (0))) ah))) (aa (bQ iC 1 (aa (bQ dv 2 (aa (ae 0) (aa (gC (.int (1))) ah))) ah)) ah))))
  (aG (a9 2 (ax (bj cu 1 (aa (ae 1) ah))))
  (aG (eL (aQ (ax (kM eB (ax (m7 (ae 0) (fB (gC (.int (2)))) (fB (gC (.int (7)))))) (ax (bw (aa (bQ dv 2 (aa (ae 0) (aa (gC (.int (2))) ah))) ah)))))) (aD 3)
   (aG (a9 4 (bQ fT 2 (aa (ae 2) (aa (bQ fU 1 (aa (ae 3) ah)) ah))))
  (aG (iI (jE (iJ (bQ gF 2 (aa (ae 1) (aa (ae 4) ah))))) (bT (gC (.bool false))) bC)
  (aG (a9 5 (g2 eX (ax (bw (aa (bB (aa (gC (.int (0))) (aa (gC (.int (0))) ah))) (aa (bB (aa (gC (.int (0))) (aa (g2 bo (fI df (aa (ae 1) ah)) (gC (.int (1)))) ah))) (aa (bB (aa (fI df (aa (ae 1) ah)) (aa (fI df (aa (ae 1) ah)) ah))) (aa (bB (aa (g2 bo (g2 eX (g2 eX (ae 2) (g1 Ak (gC (.int (1))))) (gC (.int (0)))) (gC (.int (1)))) (aa (g2 eX (g2 eX (ae 2) (g1 Ak (gC (.int (1))))) (gC (.int (1)))) ah))) ah)))))) (g2 eu (ae 3) (gC (.int (4))))))
  (aG (a9 6 (g2 eu (g2 mY (ae 3) (gC (.int (4)))) (g2 bo (fI df (aa (ae 4) ah)) (gC (.int (1))))))
  (iI (jE (iJ (bQ eG 2 (aa (ae 1) (aa (ax (kM eB (ax (kM eB (ax (m7 (ae 4) gX (fB (ae 6)))) (ax (bw (aa (ae 5) ah))))) (ax (m7 (ae 4) (fB (ae 6)) gX)))) ah))))) (bT (gC (.bool false))) bC))))))
  (bT (gC (.bool true))))))
def rO:List D->Option D:=gQ 7 D3
theorem Nk (a0:D):rO [a0]=(D3 [some a0,none,none,none,none,none,none]).bind iK:=rfl
end aK
open L2
namespace aK
open PySem L2 Q1
theorem yk (ns:List Int) (k:Nat):dv [.list (ns.map .int),.int k]=some (.int (ns.getD k 0)):=by
 rw [yc]
 simp only [aG,iI,gB,g2,ae,List.getElem?_cons_succ,List.getElem?_cons_zero,Option.join_some,fI,aa,ah,Option.bind_some,sZ,Mo,bT,Ip,bC,decide_eq_true_eq,gC]
 rw [List.length_map,List.getD_eq_getElem?_getD]
 by_cases h:k < ns.length
 ·rw [if_pos (by omega),iN (v:=.int ns[k]) (by rw [List.getElem?_map,List.getElem?_eq_getElem h]; rfl),List.getElem?_eq_getElem h]
  rfl
 ·rw [if_neg (by omega),List.getElem?_eq_none (by omega)]
  rfl
def dR (r:List Int):D:=.tuple (r.map .int)
def bc (p:List (List Int)):D:=.tuple (p.map dR)
def mq (l:List Int):Prop:=l.Pairwise (· < ·)
def led (r:List Int):List Int:=ss (r ++ r.map (· + 1))
def Nx (r s:List Int):Prop:=s≠[] /\ mq s /\ ∀ x∈s,x∈led r
def D4:List Int->List (List Int)->Prop
 | _,[]=>True
 | r,s :: q=>Nx r s /\ D4 s q
def lst:List Int->List (List Int)->List Int
 | r,[]=>r
 | _,s :: q=>lst s q
theorem vF {s:List Int}:∀ {q:List (List Int)} {r:List Int},D4 r q->Nx (lst r q) s->D4 r (q ++ [s])
 | [],_,_,h=>⟨h,trivial⟩
 | _ :: _,_,h1,h2=>⟨h1.1,vF h1.2 h2⟩
theorem lst_snoc {s:List Int}:∀ {q:List (List Int)} {r:List Int},lst r (q ++ [s])=s
 | [],_=>rfl
 | _ :: q,_=>lst_snoc (q:=q)
structure Pl (p:List (List Int)):Prop where
 ex:∃ q,p=[0] :: q /\ D4 [0] q
theorem d3 {x:Int} {r:List Int}:x∈led r↔x∈r \/ x - 1∈r:=by
 unfold led
 rw [xw,List.mem_append,List.mem_map]
 constructor
 ·rintro (h | ⟨y,h,e⟩)
  ·exact .inl h
  ·exact .inr (by have:x - 1=y:=(by omega); rw [this]; exact h)
 ·rintro (h | h)
  ·exact .inl h
  ·exact .inr ⟨x - 1,h,by omega⟩
theorem pN:∀ {l:List Int} {a b:Int},mq l->(∀ x∈l,a<=x /\ x<=b)->(l.length:Int)<=max 0 (b - a + 1)
 | [],a,b,_,_=>by simp; omega
 | x :: l,a,b,h,hb=>by
   obtain ⟨h1,h2⟩:=List.pairwise_cons.mp h
   have hx:=hb x List.mem_cons_self
   have:=pN (l:=l) (a:=x + 1) (b:=b) h2 fun y hy=>⟨by have:=h1 y hy; omega,(hb y (List.mem_cons_of_mem _ hy)).2⟩
   rw [List.length_cons]
   push_cast
   omega
theorem pO {i:Nat} {g:DS->Option D} {δ:DS} {ds:List D} {d:D} (h1:ae i δ=some (.list ds)) (h2:g δ=some d) (h3:ds.length < 100000):uQ i g δ=some (.nx (δ.set i (some (.list (ds ++ [d]))))):=by
 unfold uQ
 rw [h1,h2]
 show (if ds.length < 100000 then _ else _)=_
 rw [if_pos h3]
theorem Iq {g:DS->Option D} {δ:DS} {d:D} {ns:List Int} (h:g δ=some d) (h2:JS d=some (ns.map .int)) (h3:ns.length < 64):Gd g δ=some ((ss ns).map .int):=by
 unfold Gd
 rw [h,Option.bind_some,h2,Option.bind_some,rA,Option.bind_some,if_pos h3]
theorem i7 {a b:DS->Option D} {δ:DS} {x y:List D} (h1:a δ=some (.list x)) (h2:b δ=some (.list y)) (h3:x.length + y.length<=100000):kM eB a b δ=some (x ++ y):=by
 unfold kM
 rw [h1,h2]
 show (if x.length + y.length<=100000 then _ else _)=_
 rw [if_pos h3]
theorem iW {c:DS->Option Bool} {a b:DS->Option Res} {δ:DS} {r:Option Res} (x:Bool) (h:c δ=some x) (h1:x=true->a δ=r) (h2:x=false->b δ=r):iI c a b δ=r:=by
 unfold iI
 rw [h]
 cases x with
 | true=>exact h1 rfl
 | false=>exact h2 rfl
theorem D5 {α:Type} (enc:α->D) (l:List α) (lo hi:Option Int):∃ m:List α,cutD (l.map enc) lo hi=m.map enc /\ m.Sublist l:=by
 refine ⟨(l.drop (HT.qf l.length 0 lo)).take (HT.qf l.length l.length hi - HT.qf l.length 0 lo),?_,(List.take_sublist _ _).trans (List.drop_sublist _ _)⟩
 unfold cutD
 rw [List.length_map,List.map_take,List.map_drop]
theorem mr {f:List D->Option D} {g:DS->Option (List D)} {δ:DS} {ds:List D} {r:Option D} (h:g δ=some ds) (h2:f ds=r):fI f g δ=r:=by unfold fI; rw [h]; exact h2
theorem part_of {g:DS->Option D} {δ:DS} {i:Int} (h:g δ=some (.int i)):fB g δ=some (some i):=by unfold fB; rw [h]; rfl
theorem tz {a b:DS->Option D} {δ:DS} {r:List Int} (h1:a δ=some (.list (r.map .int))) (h2:b δ=some (.list (r.map .int)) \/ b δ=some (dR r)) (hl:r.length < 32):Gd (ax (kM eB a (ax (dj (aQ b) [] (g2 bo (ae 0) (gC (.int 1))))))) δ=some ((led r).map .int):=by
 have hi:aQ b δ=some (r.map .int):=by
  unfold aQ
  rcases h2 with h2 | h2
  ·rw [h2]; rfl
  ·rw [h2]; rfl
 have hc:dj (aQ b) [] (g2 bo (ae 0) (gC (.int 1))) δ=some ((r.map (· + 1)).map .int):=g5 PyData.int PyData.int (fun x=>x + 1) r hi (by omega) (fun x _=>rfl)
 have QO:=i7 h1 (aI hc) (by simp; omega)
 refine Iq (aI QO) ?_ (by simp; omega)
 rw [List.map_append]
 rfl
theorem nX (c b:Int) (n:Nat) (hb:0 < b) (hn:n<=1000):fj (dw [.int c,.int b,.int (n:Nat)]) fun ds=>∃ l:List Int,ds=l.map .int /\ l.length=n /\ ∀ x∈l,0<=x /\ x < b:=by
 rw [vB]
 refine bb [some (.int c),some (.int b),some (.int (n:Nat)),some (.list []),none,none] rfl ?_
 refine ko 0 n (fun i δ=>∃ (l:List Int) (x y:Option D),δ=[some (.int c),some (.int b),some (.int (n:Nat)),some (.list (l.map .int)),x,y] /\ l.length=i /\ ∀ x∈l,0<=x /\ x < b) (h8 rfl (by omega)) ⟨[],none,none,rfl,rfl,by simp⟩ ?_ ?_
 ·rintro i δ hi ⟨l,x,y,rfl,hl,hx⟩
  have m1:gv (.int (c % 1000003)) (.int 48271)=some (.int (c % 1000003 * 48271)):=mo (mul_right (by decide) (by decide))
  have m2:gv (.int (0 + (i:Int))) (.int (0 + (i:Int)))=some (.int ((0 + (i:Int)) * (0 + (i:Int)))):=mo (mul_right (by omega) (by omega))
  have m3:gv (.int ((0 + (i:Int)) * (0 + (i:Int)))) (.int 69621)=some (.int ((0 + (i:Int)) * (0 + (i:Int)) * 69621)):=mo (mul_right (by decide) (by decide))
  have m4:gv (.int (0 + (i:Int))) (.int 16807)=some (.int ((0 + (i:Int)) * 16807)):=mo (mul_right (by decide) (by decide))
  refine ⟨_,[some (.int c),some (.int b),some (.int (n:Nat)),some (.list ((l ++ [_]).map .int)),some (.int (0 + (i:Int))),some (.int ((c % 1000003 * 48271 + (0 + (i:Int)) * (0 + (i:Int)) * 69621 + (0 + (i:Int)) * 16807) % 2147483647))],rfl,
   bK [some (.int c),some (.int b),some (.int (n:Nat)),some (.list (l.map .int)),some (.int (0 + (i:Int))),some (.int ((c % 1000003 * 48271 + (0 + (i:Int)) * (0 + (i:Int)) * 69621 + (0 + (i:Int)) * 16807) % 2147483647))]
    (aS (au (au (au (au (au rfl rfl (gS (by decide))) rfl m1) (au (au rfl rfl m2) rfl m3) rfl) (au rfl rfl m4) rfl) rfl (gS (by decide))))
    ((pO (d:=.int (((c % 1000003 * 48271 + (0 + (i:Int)) * (0 + (i:Int)) * 69621 + (0 + (i:Int)) * 16807) % 2147483647 * 39373 + c) % 2147483629 / 13 % b)) rfl
      (au (au (au (au (au rfl rfl (mo (mul_right (by decide) (by decide)))) rfl rfl) rfl (gS (by decide))) rfl (zB (by decide) (mn (jt (m:=4) (by decide)) (by decide)))) rfl (gS hb)) (by simp; omega)).trans (by rw [List.map_append]; rfl)),l ++ [_],_,_,rfl,by simp [hl],?_⟩
  intro z hz
  rcases List.mem_append.mp hz with q | q
  ·exact hx z q
  ·rw [List.mem_singleton.mp q]
   exact ⟨Int.emod_nonneg _ (by omega),Int.emod_lt_of_pos _ hb⟩
 ·rintro δ' ⟨l,x,y,rfl,hl,hx⟩
  exact ret (.list (l.map .int)) rfl (.mk rfl ⟨l,rfl,hl,hx⟩)
theorem tD (c b:Int) (n:Nat) (hb:0 < b) (Nl:bt b<=9000) (hn:n<=1000):fj (dZ [.int c,.int b,.int (n:Nat)]) fun ds=>∃ l:List Int,ds=l.map .int /\ l.length=n /\ ∀ x∈l,0<=x /\ x < b:=by
 rw [tw]
 refine bb [some (.int c),some (.int b),some (.int (n:Nat)),some (.list []),none] rfl ?_
 refine ko 0 n (fun i δ=>∃ (c:Int) (l:List Int) (x:Option D),δ=[some (.int c),some (.int b),some (.int (n:Nat)),some (.list (l.map .int)),x] /\ l.length=i /\ ∀ x∈l,0<=x /\ x < b) (h8 rfl (by omega)) ⟨c,[],none,rfl,rfl,by simp⟩ ?_ ?_
 ·rintro i δ hi ⟨c,l,x,rfl,hl,hx⟩
  refine ⟨_,[some (.int (c / b)),some (.int b),some (.int (n:Nat)),some (.list ((l ++ [c % b]).map .int)),some (.int (0 + (i:Int)))],rfl,
   bK [some (.int c),some (.int b),some (.int (n:Nat)),some (.list ((l ++ [c % b]).map .int)),some (.int (0 + (i:Int)))] ((pO (d:=.int (c % b)) rfl (au rfl rfl (gS hb)) (by simp; omega)).trans (by rw [List.map_append]; rfl)) (aS (au rfl rfl (zB hb Nl))),c / b,l ++ [c % b],_,rfl,by simp [hl],?_⟩
  intro z hz
  rcases List.mem_append.mp hz with q | q
  ·exact hx z q
  ·rw [List.mem_singleton.mp q]
   exact ⟨Int.emod_nonneg _ (by omega),Int.emod_lt_of_pos _ hb⟩
 ·rintro δ' ⟨c,l,x,rfl,hl,hx⟩
  exact ret (.list (l.map .int)) rfl (.mk rfl ⟨l,rfl,hl,hx⟩)
theorem zF {f:D->Option (Option D)} (hf:∀ (k:Nat) (x:Int),∃ b:Bool,f (.tuple [.int (k:Nat),.int x])=some (if b=true then some (.int x) else none)):∀ (l:List Int) (n:Nat),∃ m:List Int,nj f (((l.map PyData.int).zipIdx n).map fun p=>.tuple [.int (p.2:Nat),p.1])=some (m.map .int) /\ m.Sublist l
 | [],n=>⟨[],rfl,.slnil⟩
 | x :: l,n=>by
   obtain ⟨m,e,hs⟩:=zF hf l (n + 1)
   obtain ⟨b,hb⟩:=hf n x
   rw [List.map_cons,List.zipIdx_cons,List.map_cons,nj,hb,Option.bind_some,e,Option.bind_some]
   cases b with
   | true=>exact ⟨x :: m,rfl,hs.cons₂ x⟩
   | false=>exact ⟨m,rfl,hs.cons x⟩
theorem tF {l:List Int} {i:Int} (h0:0<=i) (h1:i < l.length):∃ x,x∈l /\ eX (.list (l.map .int)) (.int i)=some (.int x):=by
 obtain ⟨k,rfl⟩:∃ k:Nat,i=(k:Int):=⟨i.toNat,by omega⟩
 have hk:k < l.length:=by omega
 exact ⟨l[k],List.getElem_mem hk,iN (by rw [List.getElem?_map,List.getElem?_eq_getElem hk]; rfl)⟩
theorem QP:led [0]=[0,1]:=zo (by simp) (by intro z; simp)
theorem ym (c:Int) (m:Nat) (Oy:1<=m) (hm:m<=24):fj (iB [.int c,.int (m:Nat)]) fun d=>∃ p,d=bc p /\ Pl p /\ p.length<=m /\ ∀ r∈p,r.length<=25:=by
 rw [yd]
 have Oz:oP (.int 10) (.int 18)=some (.int (10 ^ 18)):=Io (k:=18) (by decide) (by decide)
 obtain ⟨many,Nm,KE,Nn⟩:∃ many:Nat,100<=many /\ many<=300 /\ g2 bo (gC (.int (100))) (g2 gv (gC (.int (200))) (fI FR (aa (g2 Bo (ae 1) (gC (.int (12)))) ah))) [some (.int c),some (.int (m:Nat)),some (.int (c / 4)),none,none,none,none,none,none]=some (.int (many:Nat)):=by
  by_cases h:(12:Int) < (m:Int)
  ·refine ⟨300,by decide,by decide,au rfl (au rfl (show _=some (.int 1) from ?_) (mo (mul_right (by decide) (by decide)))) rfl⟩
   show some (PyData.int (if decide ((12:Int) < (m:Int))=true then 1 else 0))=_
   rw [decide_eq_true h]; rfl
  ·refine ⟨100,by decide,by decide,au rfl (au rfl (show _=some (.int 0) from ?_) (mo (mul_right (by decide) (by decide)))) rfl⟩
   show some (PyData.int (if decide ((12:Int) < (m:Int))=true then 1 else 0))=_
   rw [decide_eq_false h]; rfl
 have GO:(0:Int) < (many:Int):=Int.ofNat_lt.mpr (Nat.lt_of_lt_of_le (by decide) Nm)
 have D6:many<=1000:=Nat.le_trans KE (by decide)
 refine bb [some (.int c),some (.int (m:Nat)),some (.int (c / 4)),none,none,none,none,none,none] (aS (au rfl rfl (zB (by decide) (mn (jt (m:=4) (by decide)) (by decide))))) ?_
 refine bb [some (.int c),some (.int (m:Nat)),some (.int (c / 4)),some (.int (many:Nat)),none,none,none,none,none] (aS Nn) ?_
 obtain ⟨_,e1,l1,rfl,Lp,Vo⟩:=nX (c / 4) 3 many (by decide) D6
 refine bb [some (.int c),some (.int (m:Nat)),some (.int (c / 4)),some (.int (many:Nat)),some (.list (l1.map .int)),none,none,none,none] (aS (aI (bO (cons_of rfl (cons_of rfl (cons_of rfl rfl))) rfl e1))) ?_
 have dig:∃ dg:List Int,dg.length=many /\ iI (gB (g2 Pb (fI CD (aa (ae 0) ah)) (g2 oP (gC (.int (10))) (gC (.int (18)))))) (a9 4 (ax (bj dZ 3 (aa (ae 2) (aa (gC (.int (3))) (aa (ae 3) ah)))))) bC [some (.int c),some (.int (m:Nat)),some (.int (c / 4)),some (.int (many:Nat)),some (.list (l1.map .int)),none,none,none,none]
   =some (.nx [some (.int c),some (.int (m:Nat)),some (.int (c / 4)),some (.int (many:Nat)),some (.list (dg.map .int)),none,none,none,none]):=by
  obtain ⟨_,e2,l2,rfl,xf,QD⟩:=tD (c / 4) 3 many (by decide) (mn (jt (m:=4) (by decide)) (by decide)) D6
  have hc:gB (g2 Pb (fI CD (aa (ae 0) ah)) (g2 oP (gC (.int (10))) (gC (.int (18))))) [some (.int c),some (.int (m:Nat)),some (.int (c / 4)),some (.int (many:Nat)),some (.list (l1.map .int)),none,none,none,none]=some (decide ((10 ^ 18:Int)<=(if c < 0 then -c else c))):=bA (au rfl Oz rfl)
  by_cases h:((10 ^ 18:Int)<=(if c < 0 then -c else c))
  ·exact ⟨l2,xf,iW true (by rw [hc,decide_eq_true h]) (fun _=>aS (aI (bO (cons_of rfl (cons_of rfl (cons_of rfl rfl))) rfl e2))) (fun z=>nomatch z)⟩
  ·exact ⟨l1,Lp,iW false (by rw [hc,decide_eq_false h]) (fun z=>nomatch z) (fun _=>rfl)⟩
 obtain ⟨dg,QR,XE⟩:=dig
 refine bb _ XE ?_
 refine bb [some (.int c),some (.int (m:Nat)),some (.int (c / 4)),some (.int (many:Nat)),some (.list (dg.map .int)),some (.list [dR [0]]),none,none,none] rfl ?_
 refine bb [some (.int c),some (.int (m:Nat)),some (.int (c / 4)),some (.int (many:Nat)),some (.list (dg.map .int)),some (.list [dR [0]]),some (.list (([0,1]:List Int).map .int)),none,none] rfl ?_
 refine bb [some (.int c),some (.int (m:Nat)),some (.int (c / 4)),some (.int (many:Nat)),some (.list (dg.map .int)),some (.list [dR [0]]),some (.list (([0,1]:List Int).map .int)),some (.int 0),none] rfl ?_
 refine A4 (fun k δ=>∃ (q:List (List Int)) (cg:List Int) (pos:Nat) (z:Option D),δ=[some (.int c),some (.int (m:Nat)),some (.int (c / 4)),some (.int (many:Nat)),some (.list (dg.map .int)),some (.list (([0] :: q).map dR)),some (.list (cg.map .int)),some (.int (pos:Nat)),z] /\
   D4 [0] q /\ q.length + 1<=m /\ (cg=[] \/ cg=led (lst [0] q)) /\ mq cg /\ (∀ x∈cg,0<=x /\ x<=(q.length:Int) + 1) /\ (∀ r∈q,r.length<=25) /\ k=2 * (m - q.length) + (if cg=[] then 0 else 1))
  (fun δ=>∃ (q:List (List Int)) (x y z:Option D),δ=[some (.int c),some (.int (m:Nat)),some (.int (c / 4)),some (.int (many:Nat)),some (.list (dg.map .int)),some (.list (([0] :: q).map dR)),x,y,z] /\ D4 [0] q /\ q.length + 1<=m /\ ∀ r∈q,r.length<=25)
  (2 * m + 1) ⟨[],[0,1],0,none,rfl,trivial,by simpa using Oy,.inr QP.symm,by unfold mq; simp,by intro x hx; simp at hx; rcases hx with h | h <;> subst h <;> decide,by simp,by simp⟩ ?_ ?_
 ·rintro k δ ⟨q,cg,pos,z,rfl,hq,OA,Np,hr,hb,fH,rfl⟩
  have hlen:cg.length<=q.length + 2:=by
   have:=pN hr hb
   omega
  have cond:Al (gB (g2 Aj (fI df (aa (ae 5) ah)) (ae 1))) (gB (g2 Bo (fI df (aa (ae 6) ah)) (gC (.int (0))))) [some (.int c),some (.int (m:Nat)),some (.int (c / 4)),some (.int (many:Nat)),some (.list (dg.map .int)),some (.list (([0] :: q).map dR)),some (.list (cg.map .int)),some (.int (pos:Nat)),z]
    =some (decide ((((([0] :: q).map dR).length:Nat):Int) < (m:Int)) && decide ((0:Int) < (((cg.map PyData.int).length:Nat):Int))):=by
   by_cases h:((((([0] :: q).map dR).length:Nat):Int) < (m:Int))
   ·rw [decide_eq_true h,Bool.true_and]
    exact KA (bA (b:=true) (show _=_ from congrArg (fun b=>some (PyData.bool b)) (decide_eq_true h))) (bA rfl)
   ·rw [decide_eq_false h,Bool.false_and]
    have h1:gB (g2 Aj (fI df (aa (ae 5) ah)) (ae 1)) [some (.int c),some (.int (m:Nat)),some (.int (c / 4)),some (.int (many:Nat)),some (.list (dg.map .int)),some (.list (([0] :: q).map dR)),some (.list (cg.map .int)),some (.int (pos:Nat)),z]=some false:=
     bA (b:=false) (show _=_ from congrArg (fun b=>some (PyData.bool b)) (decide_eq_false h))
    unfold Al
    rw [h1]; rfl
  rw [cond]
  cases mO:(decide ((((([0] :: q).map dR).length:Nat):Int) < (m:Int)) && decide ((0:Int) < (((cg.map PyData.int).length:Nat):Int))) with
  | false=>exact .inl ⟨rfl,q,_,_,_,rfl,hq,OA,fH⟩
  | true=>
    rw [Bool.and_eq_true,decide_eq_true_eq,decide_eq_true_eq] at mO
    have XF:q.length + 1 < m:=by
     have:=mO.1
     simp at this
     omega
    have el:cg≠[]:=by
     intro e
     subst e
     simp at mO
    have mG:cg=led (lst [0] q):=Np.resolve_left el
    refine .inr ⟨rfl,?_⟩
    have comp:∃ r1:List Int,ba (eO (ae 6)) 2 [4,3,7] (iu 2 (bY (aD 0) (bY (aD 1) iQ))) (gB (g2 Bo (g2 eX (ae 2) (g2 eu (g2 bo (ae 4) (ae 0)) (ae 3))) (gC (.int (0))))) (ae 1)
      [some (.int c),some (.int (m:Nat)),some (.int (c / 4)),some (.int (many:Nat)),some (.list (dg.map .int)),some (.list (([0] :: q).map dR)),some (.list (cg.map .int)),some (.int (pos:Nat)),z]=some (r1.map .int) /\ r1.Sublist cg:=by
     obtain ⟨f,ef⟩:∃ f:D->Option (Option D),f=fun d=>(iu 2 (bY (aD 0) (bY (aD 1) iQ)) d (List.replicate 2 none ++ gy [4,3,7] [some (.int c),some (.int (m:Nat)),some (.int (c / 4)),some (.int (many:Nat)),some (.list (dg.map .int)),some (.list (([0] :: q).map dR)),some (.list (cg.map .int)),some (.int (pos:Nat)),z])).bind fun gL=>
       (gB (g2 Bo (g2 eX (ae 2) (g2 eu (g2 bo (ae 4) (ae 0)) (ae 3))) (gC (.int (0)))) gL).bind fun b=>if b=true then (ae 1 gL).map some else some none:=⟨_,rfl⟩
     have hf:∀ (k:Nat) (x:Int),∃ b:Bool,f (.tuple [.int (k:Nat),.int x])=some (if b=true then some (.int x) else none):=by
      intro k x
      obtain ⟨y,_,ey⟩:=tF (l:=dg) (i:=((pos:Nat) + (k:Nat):Int) % (many:Nat)) (Int.emod_nonneg _ (Int.ne_of_gt GO)) (by rw [QR]; exact Int.emod_lt_of_pos _ GO)
      refine ⟨decide (0 < y),?_⟩
      rw [ef]
      show (Option.bind (some [some (PyData.int (k:Nat)),some (.int x),some (.list (dg.map .int)),some (.int (many:Nat)),some (.int (pos:Nat))]) _)=_
      rw [Option.bind_some]
      have hb:gB (g2 Bo (g2 eX (ae 2) (g2 eu (g2 bo (ae 4) (ae 0)) (ae 3))) (gC (.int (0)))) [some (PyData.int (k:Nat)),some (.int x),some (.list (dg.map .int)),some (.int (many:Nat)),some (.int (pos:Nat))]=some (decide (0 < y)):=
       bA (au (au rfl (au (au rfl rfl rfl) rfl (gS GO)) ey) rfl rfl)
      rw [hb,Option.bind_some]
      cases decide (0 < y) <;> rfl
     obtain ⟨m1,KG,wM⟩:=zF hf cg 0
     refine ⟨m1,?_,wM⟩
     unfold ba
     rw [show eO (ae 6) [some (.int c),some (.int (m:Nat)),some (.int (c / 4)),some (.int (many:Nat)),some (.list (dg.map .int)),some (.list (([0] :: q).map dR)),some (.list (cg.map .int)),some (.int (pos:Nat)),z]=some (iy (cg.map .int)) from rfl,Option.bind_some,if_pos (by rw [kO,List.length_map]; omega)]
     rw [ef] at KG
     exact KG
    obtain ⟨r1,OB,wM⟩:=comp
    have slice:∃ r:List Int,r.Sublist cg /\ iI (gB (g2 Bo (g2 eu (ae 0) (gC (.int (4)))) (gC (.int (1))))) (a9 8 (ax (m7 (ae 6) (fB (g2 eX (ae 4) (g2 eu (ae 7) (ae 3)))) (fB (fI rj (aa (gC (.int (0))) (aa (g2 gP (fI df (aa (ae 6) ah)) (g2 eX (ae 4) (g2 eu (g2 bo (ae 7) (gC (.int (1)))) (ae 3)))) ah))))))) bC
      [some (.int c),some (.int (m:Nat)),some (.int (c / 4)),some (.int (many:Nat)),some (.list (dg.map .int)),some (.list (([0] :: q).map dR)),some (.list (cg.map .int)),some (.int ((pos:Nat) + (cg.map PyData.int).length)),some (.list (r1.map .int))]
      =some (.nx [some (.int c),some (.int (m:Nat)),some (.int (c / 4)),some (.int (many:Nat)),some (.list (dg.map .int)),some (.list (([0] :: q).map dR)),some (.list (cg.map .int)),some (.int ((pos:Nat) + (cg.map PyData.int).length)),some (.list (r.map .int))]):=by
     obtain ⟨y1,_,XG⟩:=tF (l:=dg) (i:=((pos:Nat) + (cg.map PyData.int).length:Int) % (many:Nat)) (Int.emod_nonneg _ (Int.ne_of_gt GO)) (by rw [QR]; exact Int.emod_lt_of_pos _ GO)
     obtain ⟨y2,_,XH⟩:=tF (l:=dg) (i:=((pos:Nat) + (cg.map PyData.int).length + 1:Int) % (many:Nat)) (Int.emod_nonneg _ (Int.ne_of_gt GO)) (by rw [QR]; exact Int.emod_lt_of_pos _ GO)
     have hc:gB (g2 Bo (g2 eu (ae 0) (gC (.int (4)))) (gC (.int (1)))) [some (.int c),some (.int (m:Nat)),some (.int (c / 4)),some (.int (many:Nat)),some (.list (dg.map .int)),some (.list (([0] :: q).map dR)),some (.list (cg.map .int)),some (.int ((pos:Nat) + (cg.map PyData.int).length)),some (.list (r1.map .int))]=some (decide (1 < c % 4)):=
      bA (au (au rfl rfl (gS (by decide))) rfl rfl)
     by_cases h:1 < c % 4
     ·obtain ⟨r2,QS,kb⟩:=D5 PyData.int cg (some y1) (some (if ((cg.map PyData.int).length:Int) - y2 > 0 then ((cg.map PyData.int).length:Int) - y2 else 0))
      refine ⟨r2,kb,iW true (by rw [hc,decide_eq_true h]) (fun _=>aS (aI ?_)) (fun z=>nomatch z)⟩
      have f1:fB (g2 eX (ae 4) (g2 eu (ae 7) (ae 3))) [some (.int c),some (.int (m:Nat)),some (.int (c / 4)),some (.int (many:Nat)),some (.list (dg.map .int)),some (.list (([0] :: q).map dR)),some (.list (cg.map .int)),some (.int ((pos:Nat) + (cg.map PyData.int).length)),some (.list (r1.map .int))]=some (some y1):=by
       exact part_of (au rfl (au rfl rfl (gS GO)) XG)
      have f2:fB (fI rj (aa (gC (.int (0))) (aa (g2 gP (fI df (aa (ae 6) ah)) (g2 eX (ae 4) (g2 eu (g2 bo (ae 7) (gC (.int (1)))) (ae 3)))) ah))) [some (.int c),some (.int (m:Nat)),some (.int (c / 4)),some (.int (many:Nat)),some (.list (dg.map .int)),some (.list (([0] :: q).map dR)),some (.list (cg.map .int)),some (.int ((pos:Nat) + (cg.map PyData.int).length)),some (.list (r1.map .int))]
        =some (some (if ((cg.map PyData.int).length:Int) - y2 > 0 then ((cg.map PyData.int).length:Int) - y2 else 0)):=by
       have g:g2 gP (fI df (aa (ae 6) ah)) (g2 eX (ae 4) (g2 eu (g2 bo (ae 7) (gC (.int (1)))) (ae 3))) [some (.int c),some (.int (m:Nat)),some (.int (c / 4)),some (.int (many:Nat)),some (.list (dg.map .int)),some (.list (([0] :: q).map dR)),some (.list (cg.map .int)),some (.int ((pos:Nat) + (cg.map PyData.int).length)),some (.list (r1.map .int))]=some (.int (((cg.map PyData.int).length:Int) - y2)):=
        au rfl (au rfl (au (au rfl rfl rfl) rfl (gS GO)) XH) rfl
       exact part_of (mr (cons_of rfl (cons_of g rfl)) rfl)
      unfold m7
      rw [f1,f2]
      show some (cutD (cg.map .int) _ _)=_
      rw [QS]
     ·exact ⟨r1,wM,iW false (by rw [hc,decide_eq_false h]) (fun z=>nomatch z) (fun _=>rfl)⟩
    obtain ⟨r,hs,Vu⟩:=slice
    have XI:mq r:=hr.sublist hs
    have Nq:r.length<=25:=by have:=hs.length_le; omega
    have Vv:∀ x∈r,0<=x /\ x<=(q.length:Int) + 1:=fun x hx=>hb x (hs.subset hx)
    have e6:=tz (a:=ae 8) (b:=ae 8) (δ:=[some (.int c),some (.int (m:Nat)),some (.int (c / 4)),some (.int (many:Nat)),some (.list (dg.map .int)),some (.list (([0] :: q).map dR)),some (.list (cg.map .int)),some (.int ((pos:Nat) + (cg.map PyData.int).length)),some (.list (r.map .int))]) (r:=r) rfl (.inl rfl) (by omega)
    by_cases OC:r=[]
    ·subst OC
     refine ⟨[some (.int c),some (.int (m:Nat)),some (.int (c / 4)),some (.int (many:Nat)),some (.list (dg.map .int)),some (.list (([0] :: q).map dR)),some (.list (([]:List Int).map .int)),some (.int (((pos + cg.length:Nat):Nat):Int)),some (.list (([]:List Int).map .int))],2 * (m - q.length),?_,by rw [if_neg el]; omega,q,[],pos + cg.length,_,rfl,hq,OA,.inl rfl,.nil,by simp,fH,by simp⟩
     refine bK _ (aS (aI OB)) (bK _ (aS (au rfl rfl rfl)) (bK _ Vu (bK _ (aS (aI e6)) ?_)))
     refine (iW false rfl (fun z=>nomatch z) fun _=>rfl).trans ?_
     rw [List.length_map]
     push_cast
     rfl
    ·have XJ:Nx (lst [0] q) r:=⟨OC,XI,fun x hx=>mG ▸ hs.subset hx⟩
     refine ⟨[some (.int c),some (.int (m:Nat)),some (.int (c / 4)),some (.int (many:Nat)),some (.list (dg.map .int)),some (.list (([0] :: (q ++ [r])).map dR)),some (.list ((led r).map .int)),some (.int (((pos + cg.length:Nat):Nat):Int)),some (.list (r.map .int))],2 * (m - (q ++ [r]).length) + (if led r=[] then 0 else 1),?_,?_,q ++ [r],led r,pos + cg.length,_,rfl,vF hq XJ,by simp; omega,.inr (by rw [lst_snoc]),fP,?_,?_,rfl⟩
     ·refine bK _ (aS (aI OB)) (bK _ (aS (au rfl rfl rfl)) (bK _ Vu (bK _ (aS (aI e6)) ?_)))
      have AU:(0:Int) < ((r.map PyData.int).length:Int):=by
       have:=List.length_pos_iff.mpr OC
       simp; omega
      refine (iW true (bA (b:=true) (show _=_ from congrArg (fun b=>some (PyData.bool b)) (decide_eq_true AU))) (fun _=>pO (ds:=([0] :: q).map dR) (d:=dR r) rfl rfl (by simp; omega)) fun z=>nomatch z).trans ?_
      rw [List.length_map,<- List.cons_append,List.map_append]
      push_cast
      rfl
     ·have hl:led r≠[]:=fun e=>by
       obtain ⟨x,hx⟩:=List.exists_mem_of_ne_nil r OC
       have:=d3.mpr (.inl hx)
       rw [e] at this; simp at this
      rw [if_neg hl,if_neg el]
      simp
      omega
     ·intro x hx
      rcases d3.mp hx with h | h
      ·have:=Vv x h; simp; omega
      ·have:=Vv _ h; simp; omega
     ·intro s ng
      rcases List.mem_append.mp ng with h | h
      ·exact fH s h
      ·rw [List.mem_singleton.mp h]; exact Nq
 ·rintro δ' ⟨q,x,y,z,rfl,hq,OA,fH⟩
  refine ret (bc ([0] :: q)) rfl (.mk rfl ⟨[0] :: q,rfl,⟨q,rfl,hq⟩,by simpa using OA,fun r hr=>?_⟩)
  rcases List.mem_cons.mp hr with h | h
  ·rw [h]; decide
  ·exact fH r h
theorem zG {i:Int} {T:List Int}:Bp (.int i) (.list (T.map .int))=some (.bool (decide (i∈T))):=by
 have hf:(kj (.int i) && (T.map PyData.int).all kj)=true:=by simp [kj]
 show (if (kj (.int i) && (T.map PyData.int).all kj)=true then some (PyData.bool ((T.map PyData.int).any fun z=>JJ z (.int i))) else none)=_
 rw [if_pos hf,List.any_map]
 congr 2
 rw [Bool.eq_iff_iff,List.any_eq_true,decide_eq_true_eq]
 constructor
 ·rintro ⟨x,hx,e⟩
  rw [Function.comp,zk,decide_eq_true_eq] at e
  rw [<- e]; exact hx
 ·intro h
  exact ⟨i,h,by rw [Function.comp,zk]; simp⟩
theorem tH {i:Int} {T:List Int}:Bp (.int i) (dR T)=some (.bool (decide (i∈T))):=zG
theorem dd {a:Int} (b:Int) (h:0 < b) (h2:b.natAbs < 2 ^ 70):mY (.int a) (.int b)=some (.int (a / b)):=zB h (mn (jt h2) (by decide))
theorem KH {a b:DS->Option D} {δ:DS} {x y:Bool} (h1:a δ=some (.bool x)) (h2:x=true->b δ=some (.bool y)):nM a b δ=some (.bool (x && y)):=by
 unfold nM
 rw [bA h1,Option.bind_some]
 cases x with
 | true=>rw [if_pos rfl,h2 rfl]; rfl
 | false=>rfl
theorem D7 {p:List (List Int)} {i:Int} (h0:0<=i) (h1:i < (p.length:Int)):eX (bc p) (.int i)=some (dR (p.getD i.toNat [])):=by
 obtain ⟨k,rfl⟩:∃ k:Nat,i=(k:Int):=⟨i.toNat,by omega⟩
 have hk:k < p.length:=by omega
 refine iN ?_
 rw [List.getElem?_map,Int.toNat_natCast,List.getD_eq_getElem?_getD,List.getElem?_eq_getElem hk]
 rfl
theorem yn (c:Int):∃ m:Nat,1<=m /\ m<=12 /\ iC [.int c]=some (.int (m:Nat)):=by
 by_cases h:c / 7 % 8=1
 ·have h0:=Int.emod_nonneg (c / 56) (b:=12) (by decide)
  have h1:=Int.emod_lt_of_pos (c / 56) (show (0:Int) < 12 by decide)
  refine ⟨(1 + c / 56 % 12).toNat,by omega,by omega,?_⟩
  rw [pK]
  refine b9 (sX true (bA (b:=true) ?_) (fun _=>sY (.int (1 + c / 56 % 12)) (au rfl (au (au rfl rfl (dd 56 (by decide) (by decide))) rfl (gS (by decide))) rfl) (.mk rfl ?_)) fun z=>nomatch z)
  ·refine (au (au (au rfl rfl (dd 7 (by decide) (by decide))) rfl (gS (by decide))) rfl rfl).trans ?_
   rw [kq,decide_eq_true h]
  ·rw [show (((1 + c / 56 % 12).toNat:Nat):Int)=1 + c / 56 % 12 by omega]
 ·have h0:=Int.emod_nonneg c (b:=7) (by decide)
  have h1:=Int.emod_lt_of_pos c (show (0:Int) < 7 by decide)
  refine ⟨(1 + c % 7).toNat,by omega,by omega,?_⟩
  rw [pK]
  refine b9 (nv (bA (b:=false) ?_) (ret (.int (1 + c % 7)) (au rfl (au rfl rfl (gS (by decide))) rfl) (.mk rfl ?_)))
  ·refine (au (au (au rfl rfl (dd 7 (by decide) (by decide))) rfl (gS (by decide))) rfl rfl).trans ?_
   rw [kq,decide_eq_false h]
  ·rw [show (((1 + c % 7).toNat:Nat):Int)=1 + c % 7 by omega]
abbrev WF:=Int->Int->Int
def dC (c:Int×Int):D:=.tuple [.int c.1,.int c.2]
def eh (F:WF) (c:Int×Int):WF:=fun x y=>F x y + (if x=c.1 + 1 /\ y=c.2 then F c.1 c.2 else 0) + (if x=c.1 /\ y=c.2 + 1 then F c.1 c.2 else 0)
def nA (c:Int×Int):WF:=fun x y=>if x=c.1 /\ y=c.2 then 1 else 0
def iM (n:Nat) (r:List Int):List (Int×Int):=r.map fun b=>(b,(n:Int) - b)
def aV:Nat->List (List Int)->List (Int×Int)
 | _,[]=>[]
 | n,r :: p=>iM n r ++ aV (n + 1) p
theorem ib (r:List Int):∀ (p:List (List Int)) (n:Nat),aV n (p ++ [r])=aV n p ++ iM (n + p.length) r
 | [],n=>by simp [aV]
 | s :: p,n=>by
   rw [List.cons_append,aV,aV,ib r p (n + 1),List.append_assoc,List.length_cons,show n + 1 + p.length=n + (p.length + 1) by omega]
theorem mw:∀ (p:List (List Int)) (n:Nat),(∀ r∈p,r.length<=25)->(aV n p).length<=25 * p.length
 | [],_,_=>by simp [aV]
 | r :: p,n,h=>by
   have h1:=mw p (n + 1) fun s hs=>h s (List.mem_cons_of_mem _ hs)
   have h2:=h r List.mem_cons_self
   rw [aV,List.length_append,List.length_cons,iM,List.length_map]
   omega
def lv (A:Int->Int) (r:List Int) (b:Int):Int:=(if b - 1∈r then A (b - 1) else 0) + (if b∈r then A b else 0)
theorem D8 (A:Int->Int) (b:Int):lv A [] b=0:=by simp [lv]
theorem D9 {A:Int->Int} {r s:List Int} (h:∀ x,x∈r↔x∈s) (b:Int):lv A r b=lv A s b:=by simp only [lv,h]
def WW:(Int->Int)->List (List Int)->Nat->Int->Int
 | A,_,0,b=>A b
 | _,[],_ + 1,_=>0
 | A,r :: p,k + 1,b=>WW (lv A r) p k b
theorem WW_0 (A:Int->Int) (p:List (List Int)):WW A p 0=A:=by funext b; cases p <;> rfl
theorem jS:∀ (p:List (List Int)) (A:Int->Int) (k:Nat) (b:Int),WW A p (k + 1) b=lv (WW A p k) (p.getD k []) b
 | [],A,k,b=>by
   rw [show ([]:List (List Int)).getD k []=[] from rfl,D8]; rfl
 | r :: p,A,0,b=>by
   show WW (lv A r) p 0 b=lv (WW A (r :: p) 0) r b
   rw [WW_0,WW_0]
 | r :: p,A,k + 1,b=>by
   show WW (lv A r) p (k + 1) b=lv (WW (lv A r) p k) (p.getD k []) b
   exact jS p (lv A r) k b
structure Nr (n:Nat) (F:WF) (A B:Int->Int):Prop where
 Ow:∀ x y:Int,x + y=(n:Int)->F x y=A x
 Vw:∀ x y:Int,x + y=(n:Int) + 1->F x y=B x
 up:∀ x y:Int,(n:Int) + 1 < x + y->F x y=0
theorem Ea {n:Nat} {F:WF} {A:Int->Int} {bs:List Int} {b:Int} (h:Nr n F A (lv A bs)) (hb:b∉bs):Nr n (eh F (b,(n:Int) - b)) A (lv A (b :: bs)) /\ ∀ x y:Int,x + y < (n:Int)->eh F (b,(n:Int) - b) x y=F x y:=by
 have e:∀ x y,eh F (b,(n:Int) - b) x y=F x y + (if x=b + 1 /\ y=(n:Int) - b then A b else 0) + (if x=b /\ y=(n:Int) - b + 1 then A b else 0):=by
  intro x y
  unfold eh
  rw [h.Ow b ((n:Int) - b) (by omega)]
 refine ⟨⟨?_,?_,?_⟩,?_⟩
 ·intro x y Bt
  rw [e,if_neg (by omega),if_neg (by omega),h.Ow x y Bt]; omega
 ·intro x y Bt
  rw [e,h.Vw x y Bt]
  have e1:(x=b + 1 /\ y=(n:Int) - b)↔x - 1=b:=by constructor <;> intro z <;> omega
  have e2:(x=b /\ y=(n:Int) - b + 1)↔x=b:=by constructor <;> intro z <;> omega
  simp only [e1,e2,lv,List.mem_cons]
  by_cases c1:x - 1=b
  ·have c2:¬ x=b:=by omega
   have c3:x - 1∉bs:=by rw [c1]; exact hb
   simp only [c1,c2,true_or,false_or,if_true,if_false,if_neg hb]
   omega
  ·by_cases c2:x=b
   ·subst c2
    simp only [c1,true_or,false_or,if_true,if_false,if_neg hb]
    omega
   ·simp only [c1,c2,false_or,if_false]
    omega
 ·intro x y Bt
  rw [e,if_neg (by omega),if_neg (by omega),h.up x y Bt]; rfl
 ·intro x y Bt
  rw [e,if_neg (by omega),if_neg (by omega)]; omega
theorem zH {n:Nat} {A:Int->Int}:∀ (r bs:List Int) (F:WF),Nr n F A (lv A bs)->(∀ x∈r,x∉bs)->r.Nodup->Nr n ((iM n r).foldl eh F) A (lv A (r ++ bs)) /\ ∀ x y:Int,x + y < (n:Int)->(iM n r).foldl eh F x y=F x y
 | [],bs,F,h,_,_=>⟨h,fun _ _ _=>rfl⟩
 | b :: r,bs,F,h,hd,nd=>by
   obtain ⟨h1,h2⟩:=Ea h (hd b List.mem_cons_self)
   obtain ⟨n1,n2⟩:=List.nodup_cons.mp nd
   obtain ⟨h3,h4⟩:=zH r (b :: bs) _ h1 (fun x hx z=>by
    rcases List.mem_cons.mp z with q | q
    ·subst q; exact n1 hx
    ·exact hd x (List.mem_cons_of_mem _ hx) q) n2
   refine ⟨?_,fun x y Bt=>(h4 x y Bt).trans (h2 x y Bt)⟩
   have:lv A (r ++ b :: bs)=lv A ((b :: r) ++ bs):=by
    funext x
    exact D9 (fun z=>by simp only [List.mem_append,List.mem_cons,List.cons_append]; constructor <;> rintro (q | q | q) <;> simp [q]) x
   rw [<- this]
   exact h3
theorem pP:∀ (p:List (List Int)) (n:Nat) (A:Int->Int) (F:WF),(∀ r∈p,r.Nodup)->(∀ x y:Int,x + y=(n:Int)->F x y=A x)->(∀ x y:Int,(n:Int) < x + y->F x y=0)->
  ∀ x y:Int,(x + y < (n:Int)->(aV n p).foldl eh F x y=F x y) /\ ∀ k:Nat,x + y=(n:Int) + (k:Int)->(aV n p).foldl eh F x y=WW A p k x
 | [],n,A,F,_,h0,h1,x,y=>by
   refine ⟨fun _=>rfl,fun k hk=>?_⟩
   show F x y=_
   cases k with
   | zero=>rw [WW_0]; exact h0 x y (by omega)
   | succ k=>exact h1 x y (by omega)
 | r :: p,n,A,F,hn,h0,h1,x,y=>by
   have L0:Nr n F A (lv A []):=⟨h0,fun x y q=>by rw [D8]; exact h1 x y (by omega),fun x y q=>h1 x y (by omega)⟩
   obtain ⟨L1,K1⟩:=zH r [] F L0 (fun x _ z=>by simp at z) (hn r List.mem_cons_self)
   rw [List.append_nil] at L1
   have ih:=pP p (n + 1) (lv A r) ((iM n r).foldl eh F) (fun s hs=>hn s (List.mem_cons_of_mem _ hs)) (fun x y q=>L1.Vw x y (by push_cast at q; omega)) (fun x y q=>L1.up x y (by push_cast at q; omega)) x y
   rw [aV,List.foldl_append]
   refine ⟨fun q=>(ih.1 (by push_cast; omega)).trans (K1 x y q),fun k hk=>?_⟩
   cases k with
   | zero=>
     rw [WW_0,ih.1 (by push_cast; omega)]
     exact L1.Ow x y (by omega)
   | succ k=>exact ih.2 k (by push_cast; push_cast at hk; omega)
theorem mx {l:List Int} (h:mq l):l.Nodup:=h.imp fun z e=>by omega
theorem zI:∀ {q:List (List Int)} {r:List Int} {n:Nat},(∀ x∈r,0<=x /\ x<=(n:Int))->D4 r q->(∀ s∈q,s.Nodup) /\ ∀ k,∀ x∈q.getD k [],0<=x /\ x<=((n + 1 + k:Nat):Int)
 | [],_,_,_,_=>⟨by simp,fun k x hx=>by simp at hx⟩
 | s :: q,r,n,hr,hc=>by
   have hs:∀ x∈s,0<=x /\ x<=((n + 1:Nat):Int):=fun x hx=>by
    rcases d3.mp (hc.1.2.2 x hx) with h | h
    ·have:=hr x h; omega
    ·have:=hr _ h; omega
   obtain ⟨i1,i2⟩:=zI (n:=n + 1) hs hc.2
   refine ⟨fun t ht=>?_,fun k x hx=>?_⟩
   ·rcases List.mem_cons.mp ht with z | z
    ·rw [z]; exact mx hc.1.2.1
    ·exact i1 t z
   ·cases k with
    | zero=>exact hs x (by simpa using hx)
    | succ k=>
      have:=i2 k x (by simpa using hx)
      omega
theorem tJ {p:List (List Int)} (h:Pl p):(∀ s∈p,s.Nodup) /\ ∀ k,∀ x∈p.getD k [],0<=x /\ x<=(k:Int):=by
 obtain ⟨q,rfl,hc⟩:=h.ex
 obtain ⟨i1,i2⟩:=zI (q:=q) (r:=[0]) (n:=0) (by simp) hc
 refine ⟨fun s hs=>?_,fun k x hx=>?_⟩
 ·rcases List.mem_cons.mp hs with z | z
  ·rw [z]; simp
  ·exact i1 s z
 ·cases k with
  | zero=>simp at hx; subst hx; simp
  | succ k=>
    have:=i2 k x (by simpa using hx)
    omega
structure Dt (kds:List (D×D)) (F:WF):Prop where
 fn:rg kds=false
 QT:∀ b g:Int,(bz kds [.inl b,.inl g]).getD (.int 0)=.int (F b g)
instance {kds:List (D×D)} {F:WF}:CoeFun (Dt kds F) (fun _=>∀ b g:Int,(bz kds [.inl b,.inl g]).getD (.int 0)=.int (F b g)):=⟨Dt.QT⟩
theorem tK {kds:List (D×D)} {k:List Key} {d:D} (h:rg kds=false):rg (eZ kds k d)=false:=by
 unfold eZ
 split
 ·cases kds with
  | nil=>rfl
  | cons p r=>
    obtain ⟨p1,p2⟩:=p
    rw [List.map_cons]
    split <;> (cases p1 with
     | list l=>
       cases l with
       | nil=>cases h
       | cons _ _=>rfl
     | _=>rfl)
 ·cases kds with
  | nil=>rfl
  | cons p r=>
    obtain ⟨p1,p2⟩:=p
    cases p1 with
    | list l=>
      cases l with
      | nil=>cases h
      | cons _ _=>rfl
    | _=>rfl
theorem vG {gd gk ge:DS->Option D} {δ:DS} {kds:List (D×D)} {c:Int×Int} {z:D} (h1:gd δ=some (.dict kds)) (h2:gk δ=some (dC c)) (h3:ge δ=some z) (hf:rg kds=false:=by first | assumption | exact Dt.fn (by assumption)):pw gd gk ge δ=some ((bz kds [.inl c.1,.inl c.2]).getD z):=by
 unfold pw; rw [h1,h2,h3]
 show (if rg kds=true then none else _)=_
 rw [hf]; rfl
theorem kT {gd gk:DS->Option D} {δ:DS} {kds:List (D×D)} {c:Int×Int} (h1:gd δ=some (.dict kds)) (h2:gk δ=some (dC c)) (hf:rg kds=false:=by first | assumption | exact Dt.fn (by assumption)):gR gd gk δ=bz kds [.inl c.1,.inl c.2]:=by
 unfold gR; rw [h1,h2]
 show (if rg kds=true then none else _)=_
 rw [hf]; rfl
theorem my {i:Nat} {gk ge:DS->Option D} {δ:DS} {kds:List (D×D)} {c:Int×Int} {d:D} (h1:ae i δ=some (.dict kds)) (h2:gk δ=some (dC c)) (h3:ge δ=some d) (h4:kds.length < 100000):nQ i gk ge δ=some (.nx (δ.set i (some (.dict (eZ kds [.inl c.1,.inl c.2] d))))):=by
 unfold nQ; rw [h1,h2,h3]
 show (if kds.length < 100000 then _ else _)=_
 rw [if_pos h4]
theorem yo {b g x y:Int}:(([.inl b,.inl g]:List Key)=[.inl x,.inl y])↔b=x /\ g=y:=by simp
theorem QU {t:D->DS->Option DS} {b:DS->Option Res} {d1 d2:D} {δ:DS} (gL Ox Vx Vy:DS) (h1:t d1 δ=some gL) (h2:b gL=some (.nx Ox)) (h3:t d2 Ox=some Vx) (h4:b Vx=some (.nx Vy)):ki t b [d1,d2] δ=some (.nx Vy):=by
 simp only [ki,h1,h2,h3,h4,Option.bind_some]
theorem Dt.put {kds:List (D×D)} {F:WF} (h:Dt kds F) (x y v:Int):Dt (eZ kds [.inl x,.inl y] (.int v)) (fun b g=>if b=x /\ g=y then v else F b g):=by
 refine ⟨tK h.fn,fun b g=>?_⟩
 show _=PyData.int (if b=x /\ g=y then v else F b g)
 rw [rG]
 by_cases e:b=x /\ g=y
 ·rw [if_pos (yo.mpr e),if_pos e]; rfl
 ·rw [if_neg (fun z=>e (yo.mp z)),if_neg e]; exact h b g
theorem yp {i:Nat} {g:DS->Option (List D)} {δ:DS} {ds zs:List D} (h1:ae i δ=some (.list ds)) (h2:g δ=some zs) (h3:ds.length + zs.length<=100000):As i g δ=some (.nx (δ.set i (some (.list (ds ++ zs))))):=by
 unfold As
 rw [h1,h2]
 show (if ds.length + zs.length<=100000 then _ else _)=_
 rw [if_pos h3]
theorem GQ (p:List (List Int)):iy (p.map dR)=p.zipIdx.map fun x=>.tuple [.int (x.2:Nat),dR x.1]:=by
 unfold iy
 rw [List.zipIdx_map,List.map_map]
 rfl
theorem pQ {p:List (List Int)} (hl:p.length<=24) (fH:∀ r∈p,r.length<=25):cq [bc p]=some ((aV 0 p).map dC):=by
 rw [yb]
 refine b9 ?_
 refine bb [some (bc p),some (.list []),none,none] rfl ?_
 refine g4 (fun x:List Int×Nat=>PyData.tuple [.int (x.2:Nat),dR x.1]) p.zipIdx (fun i δ=>∃ a b,δ=[some (bc p),some (.list ((aV 0 (p.take i)).map dC)),a,b]) ?_ ⟨none,none,rfl⟩ ?_ ?_
 ·show some (iy (p.map dR))=_
  rw [GQ]
 ·rintro i ⟨r,n⟩ δ hi ⟨a,b,rfl⟩
  rw [List.getElem?_zipIdx] at hi
  cases er:p[i]? with
  | none=>rw [er] at hi; cases hi
  | some r'=>
    rw [er] at hi
    simp only [Option.map_some,Nat.zero_add,Option.some.injEq,Prod.mk.injEq] at hi
    obtain ⟨rfl,rfl⟩:=hi
    have C7:=(List.getElem?_eq_some_iff.mp er).1
    have hr:=fH r' (List.mem_of_getElem? er)
    have ht:p.take (i + 1)=p.take i ++ [r']:=by
     rw [List.take_add_one,er]; rfl
    have GR:(p.take i).length=i:=by rw [List.length_take]; omega
    have hc0:=mw (p.take i) 0 fun s hs=>fH s (List.mem_of_mem_take hs)
    refine ⟨_,[some (bc p),some (.list ((aV 0 (p.take (i + 1))).map dC)),some (.int (i:Nat)),some (dR r')],rfl,?_,_,_,rfl⟩
    have hc:dj (aQ (ae 3)) [2] (bB (aa (ae 0) (aa (g2 gP (ae 1) (ae 0)) ah))) [some (bc p),some (.list ((aV 0 (p.take i)).map dC)),some (.int (i:Nat)),some (dR r')]=some ((r'.map fun b=>(b,(i:Int) - b)).map dC):=
     g5 PyData.int dC (fun b=>(b,(i:Int) - b)) r' rfl (by omega) fun x _=>rfl
    refine (yp rfl hc (by simp only [List.length_map]; omega)).trans ?_
    rw [ht,ib,GR,Nat.zero_add,List.map_append]
    rfl
 ·rintro δ' ⟨a,b,rfl⟩
  refine ret (.list ((aV 0 p).map dC)) ?_ (.mk rfl rfl)
  rw [List.length_zipIdx,List.take_length]
  rfl
theorem yq {a b:Str} (ha:PyData.strOk a=true) (hb:PyData.strOk b=true) {c:Bool} (hc:(a == b)=c):jD (.str a) (.str b)=some (.bool c):=by
 unfold jD
 simp [SeqAt.shaped,PyData.canLay0,PyData.depth,PyData.eqv,ha,hb,hc]
theorem A8 (c:Int×Int):g7 [dC c,.str "b"]=some (dC (c.1 + 1,c.2)):=by
 rw [zD]
 exact b9 (sX true (bA (b:=true) (au rfl rfl (yq (by decide +kernel) (by decide +kernel) (by decide +kernel)))) (fun _=>sY (dC (c.1 + 1,c.2)) rfl (.mk rfl rfl)) fun z=>nomatch z)
theorem A9 (c:Int×Int):g7 [dC c,.str "g"]=some (dC (c.1,c.2 + 1)):=by
 rw [zD]
 exact b9 (nv (bA (b:=false) (au rfl rfl (yq (by decide +kernel) (by decide +kernel) (by decide +kernel)))) (ret (dC (c.1,c.2 + 1)) rfl (.mk rfl rfl)))
def A0:Int->Int:=fun b=>if b=0 then 1 else 0
theorem Eb {p:List (List Int)} (h:Pl p) {x y:Int} {k:Nat} (e:x + y=(k:Int)):(aV 0 p).foldl eh (nA (0,0)) x y=WW A0 p k x:=by
 refine (pP p 0 A0 (nA (0,0)) (tJ h).1 ?_ ?_ x y).2 k (by push_cast; omega)
 ·intro x y q
  unfold nA A0
  by_cases c:x=0
  ·rw [if_pos ⟨c,by push_cast at q; show y=0; omega⟩,if_pos c]
  ·rw [if_neg (fun z=>c z.1),if_neg c]
 ·intro x y q
  unfold nA
  rw [if_neg]
  rintro ⟨z1,z2⟩
  have XM:x=0:=z1
  have XN:y=0:=z2
  push_cast at q
  omega
theorem yr {α β:Type} (enc:α->D) (lz:β->D) (h:α->β) (P:α->Bool) {f:D->Option (Option D)}:∀ l:List α,(∀ a∈l,f (enc a)=some (if P a=true then some (lz (h a)) else none))->nj f (l.map enc)=some (((l.filter P).map h).map lz)
 | [],_=>rfl
 | a :: l,q=>by
   have ih:=yr enc lz h P l fun b hb=>q b (List.mem_cons_of_mem _ hb)
   rw [List.map_cons,nj,q a List.mem_cons_self,Option.bind_some,ih,Option.bind_some,List.filter_cons]
   cases P a <;> rfl
theorem jv {α β:Type} (enc:α->D) (lz:β->D) (h:α->β) (P:α->Bool) {gi:DS->Option (List D)} {ix:List Nat} {gc:DS->Option Bool} {ge:DS->Option D} {δ:DS} (l:List α) (hi:gi δ=some (l.map enc)) (hl:l.length<=100000)
  (hc:∀ a∈l,gc (some (enc a) :: gy ix δ)=some (P a)) (he:∀ a∈l,P a=true->ge (some (enc a) :: gy ix δ)=some (lz (h a))):ba gi 1 ix (aD 0) gc ge δ=some (((l.filter P).map h).map lz):=by
 unfold ba
 rw [hi,Option.bind_some,if_pos (by rw [List.length_map]; exact hl)]
 refine yr enc lz h P l fun a ha=>?_
 show (Option.bind (some (some (enc a) :: gy ix δ)) _)=_
 rw [Option.bind_some,hc a ha,Option.bind_some]
 cases q:P a with
 | true=>rw [if_pos rfl,if_pos rfl,he a ha q]; rfl
 | false=>rfl
theorem zJ {f f':D->D->Option D} {a b c:DS->Option D} {δ:DS} {x y w:D} {u v:Bool} (h1:a δ=some x) (h2:b δ=some y) (h3:f x y=some (.bool u)) (h4:c δ=some w) (h5:f' y w=some (.bool v)):iw f f' a b c δ=some (.bool (u && v)):=by
 unfold iw
 rw [h1,h2]
 simp only [Option.bind_some,h3]
 cases u with
 | true=>simp only [h4,Option.bind_some,h5,Bool.true_and]
 | false=>rfl
theorem Ec {r:List Int} (h:r.length < 32):eE [dR r]=some ((led r).map .int):=by
 rw [vw]
 exact b9 (ret (.list ((led r).map .int)) (aI (tz (a:=ax (lq fA (aa (ae 0) ah))) (b:=ae 0) (r:=r) rfl (.inr rfl) h)) (.mk rfl rfl))
def jd (p:List (List Int)) (c:Int×Int):Bool:=(decide (0<=c.1 + c.2) && decide (c.1 + c.2 < (p.length:Int))) && decide (c.1∈p.getD (c.1 + c.2).toNat [])
theorem Ba (p:List (List Int)) (c:Int×Int):ia [bc p,dC c]=some (.bool (jd p c)):=by
 rw [A6]
 refine b9 ?_
 refine bb [some (bc p),some (dC c),some (.int (c.1 + c.2))] rfl ?_
 refine ret (.bool (jd p c)) ?_ (.mk rfl rfl)
 refine KH (x:=decide (0<=c.1 + c.2) && decide (c.1 + c.2 < (p.length:Int))) ?_ fun h=>?_
 ·have e2:Aj (.int (c.1 + c.2)) (.int (((p.map dR).length:Nat):Int))=some (.bool (decide (c.1 + c.2 < (p.length:Int)))):=by
   rw [List.length_map]; rfl
  exact zJ rfl rfl rfl rfl e2
 ·rw [Bool.and_eq_true,decide_eq_true_eq,decide_eq_true_eq] at h
  exact au rfl (au rfl rfl (D7 h.1 h.2)) tH
theorem ic:∀ (p:List (List Int)) (n:Nat),(∀ r∈p,r.length<=50)->(aV n p).length<=50 * p.length
 | [],_,_=>by simp [aV]
 | r :: p,n,h=>by
   have h1:=ic p (n + 1) fun s hs=>h s (List.mem_cons_of_mem _ hs)
   have h2:=h r List.mem_cons_self
   rw [aV,List.length_append,List.length_cons,iM,List.length_map]
   omega
theorem Ed (p:List (List Int)):nR (p.map dR)=(p.zipIdx 1).map fun x=>.tuple [.int (x.2:Nat),dR x.1]:=by
 unfold nR
 rw [List.zipIdx_map,List.map_map]
 rfl
theorem zK (x:Int):∀ l:List Int,(ins x l).length<=l.length + 1
 | []=>by simp [ins]
 | y :: l=>by
   have:=zK x l
   rw [ins]
   split
   ·simp
   ·split
    ·simp
    ·simp only [List.length_cons]; omega
theorem Ee:∀ l:List Int,(ss l).length<=l.length
 | []=>by simp [ss]
 | x :: l=>by
   have h1:=Ee l
   have h2:=zK x (ss l)
   rw [ss,List.length_cons]; omega
theorem iX {r:List Int}:(led r).length<=2 * r.length:=by
 have h:((led r):List Int).length<=(r ++ r.map (· + 1)).length:=Ee _
 rw [List.length_append,List.length_map] at h
 omega
theorem Bb {p:List (List Int)} (hl:p.length<=24) (fH:∀ r∈p,r.length<=25):fQ [bc p]=some (((0,0) :: aV 1 (p.map led)).map dC):=by
 rw [A7]
 refine b9 ?_
 refine bb [some (bc p),some (.list [dC (0,0)]),none,none] rfl ?_
 refine g4 (fun x:List Int×Nat=>PyData.tuple [.int (x.2:Nat),dR x.1]) (p.zipIdx 1) (fun i δ=>∃ a b,δ=[some (bc p),some (.list (((0,0) :: aV 1 ((p.take i).map led)).map dC)),a,b]) ?_ ⟨none,none,rfl⟩ ?_ ?_
 ·show some (nR (p.map dR))=_
  rw [Ed]
 ·rintro i ⟨r,n⟩ δ hi ⟨a,b,rfl⟩
  rw [List.getElem?_zipIdx] at hi
  cases er:p[i]? with
  | none=>rw [er] at hi; cases hi
  | some r'=>
    rw [er] at hi
    simp only [Option.map_some,Option.some.injEq,Prod.mk.injEq] at hi
    obtain ⟨rfl,rfl⟩:=hi
    have C7:=(List.getElem?_eq_some_iff.mp er).1
    have hr:=fH r' (List.mem_of_getElem? er)
    have ht:p.take (i + 1)=p.take i ++ [r']:=by
     rw [List.take_add_one,er]; rfl
    have GR:(p.take i).length=i:=by rw [List.length_take]; omega
    have Vz:(led r').length<=50:=by have:=iX (r:=r'); omega
    have mG:(aV 1 ((p.take i).map led)).length<=1200:=by
     have:=ic ((p.take i).map led) 1 (fun s hs=>by
      obtain ⟨t,ht,rfl⟩:=List.mem_map.mp hs
      have:=iX (r:=t)
      have:=fH t (List.mem_of_mem_take ht)
      omega)
     rw [List.length_map,GR] at this
     omega
    refine ⟨_,[some (bc p),some (.list (((0,0) :: aV 1 ((p.take (i + 1)).map led)).map dC)),some (.int ((1 + i:Nat):Int)),some (dR r')],rfl,?_,_,_,rfl⟩
    have hc:dj (aQ (ax (bj eE 1 (aa (ae 3) ah)))) [2] (bB (aa (ae 0) (aa (g2 gP (ae 1) (ae 0)) ah))) [some (bc p),some (.list (((0,0) :: aV 1 ((p.take i).map led)).map dC)),some (.int ((1 + i:Nat):Int)),some (dR r')]=some (((led r').map fun b=>(b,((1 + i:Nat):Int) - b)).map dC):=by
     refine g5 PyData.int dC (fun b=>(b,((1 + i:Nat):Int) - b)) (led r') ?_ (by omega) fun x _=>rfl
     have ec:ax (bj eE 1 (aa (ae 3) ah)) [some (bc p),some (.list (((0,0) :: aV 1 ((p.take i).map led)).map dC)),some (.int ((1 + i:Nat):Int)),some (dR r')]=some (.list ((led r').map .int)):=aI (bO (cons_of rfl rfl) rfl (Ec (by omega)))
     unfold aQ
     rw [ec]
     rfl
    refine (yp rfl hc (by simp only [List.length_map,List.length_cons]; omega)).trans ?_
    have key:aV 1 ((p.take (i + 1)).map led)=aV 1 ((p.take i).map led) ++ iM (1 + i) (led r'):=by
     rw [ht,List.map_append,show List.map led [r']=[led r'] from rfl,ib,List.length_map,GR]
    simp only [key,List.map_cons,List.map_append,List.cons_append]
    rfl
 ·rintro δ' ⟨a,b,rfl⟩
  refine ret (.list (((0,0) :: aV 1 (p.map led)).map dC)) ?_ (.mk rfl rfl)
  rw [List.length_zipIdx,List.take_length]
  rfl
def aw (p:List (List Int)):List (Int×Int):=((0,0) :: aV 1 (p.map led)).filter fun c=> !jd p c
theorem tL {p:List (List Int)} (hl:p.length<=24) (fH:∀ r∈p,r.length<=25):eP [bc p]=some ((aw p).map dC):=by
 rw [KC]
 have mG:(aV 1 (p.map led)).length<=1200:=by
  have:=ic (p.map led) 1 (fun s hs=>by
   obtain ⟨t,ht,rfl⟩:=List.mem_map.mp hs
   have:=iX (r:=t)
   have:=fH t ht
   omega)
  rw [List.length_map] at this
  omega
 have hc:ba (aQ (ax (bj fQ 1 (aa (ae 0) ah)))) 1 [0] (aD 0) (jE (iJ (bQ ia 2 (aa (ae 1) (aa (ae 0) ah))))) (ae 0) [some (bc p)]=some (((((0,0) :: aV 1 (p.map led)).filter fun c=> !jd p c).map id).map dC):=by
  refine jv dC dC id (fun c=> !jd p c) ((0,0) :: aV 1 (p.map led)) ?_ (by simp only [List.length_cons]; omega) (fun c _=>?_) fun c _ _=>rfl
  ·have ec:ax (bj fQ 1 (aa (ae 0) ah)) [some (bc p)]=some (.list (((0,0) :: aV 1 (p.map led)).map dC)):=aI (bO (cons_of rfl rfl) rfl (Bb hl fH))
   unfold aQ
   rw [ec]
   rfl
  ·exact eJ (gg (call_of (cons_of rfl (cons_of rfl rfl)) rfl (Ba p c)))
 rw [List.map_id] at hc
 exact b9 (ret (.list ((aw p).map dC)) (aI hc) (.mk rfl rfl))
theorem zL (c:Int×Int):SeqAt.shaped (dC c)=true:=by
 have e:dC c=.tuple (([c.1,c.2]:List Int).map .int):=rfl
 rw [e]
 unfold SeqAt.shaped
 simp [PyData.canLay0,PyData.canLayAll0,PyData.depth,PyData.depthAll]
theorem Ef (a c:Int×Int):PyData.eqv (dC a) (dC c)=decide (a=c):=by
 obtain ⟨a1,a2⟩:=a
 obtain ⟨c1,c2⟩:=c
 simp [dC,PyData.eqv,PyData.eqvAll]
 rfl
theorem pR (neg:Bool) (c:Int×Int) (es:List (Int×Int)):mf neg (dC c) (.list (es.map dC))=some (.bool (decide (c∈es) != neg)):=by
 unfold mf
 simp only
 rw [if_pos (by rw [zL,Bool.true_and,List.all_map]; simp [Function.comp,zL])]
 congr 3
 rw [List.any_map,Bool.eq_iff_iff]
 simp [Function.comp,Ef]
theorem tM {p:List (List Int)} (hl:p.length<=24) (fH:∀ r∈p,r.length<=25) (cs:List (Int×Int)) (h:∀ c∈cs,c∈aw p):fD [bc p,.list (cs.map dC)]=some .none:=by
 rw [tj]
 refine b9 ?_
 refine bb [some (bc p),some (.list (cs.map dC)),some (.list ((aw p).map dC)),none] (aS (aI (bO (cons_of rfl rfl) rfl (tL hl fH)))) ?_
 obtain ⟨δ',e,a,rfl⟩:=oC (t:=aD 3) (b:=iI (gB (g2 (mf true) (ae 3) (ae 2))) (fun _=>none) bC) dC (fun _ δ=>∃ a,δ=[some (bc p),some (.list (cs.map dC)),some (.list ((aw p).map dC)),a]) cs (δ:=[some (bc p),some (.list (cs.map dC)),some (.list ((aw p).map dC)),none]) ⟨none,rfl⟩ (by
  rintro i c δ hi ⟨a,rfl⟩
  refine ⟨_,[some (bc p),some (.list (cs.map dC)),some (.list ((aw p).map dC)),some (dC c)],rfl,ju (bA (au rfl rfl ((pR true c (aw p)).trans ?_))),_,rfl⟩
  rw [decide_eq_true (h c (List.mem_of_getElem? hi))]
  rfl)
 refine .mk (d:=.none) ?_ rfl
 show ((eL _ _ _ _:Option Res)).bind iK=_
 unfold eL
 rw [show aQ (ae 1) [some (bc p),some (.list (cs.map dC)),some (.list ((aw p).map dC)),none]=some (cs.map dC) from rfl,Option.bind_some,e]
 rfl
def pS (p:List (List Int)) (c:Int×Int):Bool:=(decide (0<=c.1 + c.2) && decide (c.1 + c.2 < (p.length:Int))) && decide (c.1∈p.getD (c.1 + c.2).toNat [])
theorem GS (p:List (List Int)) (n:Nat) (b:Int):pS p (b,(n:Int) - b)=decide (b∈p.getD n []):=by
 unfold pS
 simp only
 rw [show b + ((n:Int) - b)=(n:Int) by omega,Int.toNat_natCast,decide_eq_true (show (0:Int)<=(n:Int) by omega),Bool.true_and]
 rcases Nat.lt_or_ge n p.length with q | q
 ·rw [decide_eq_true (show (n:Int) < (p.length:Int) by omega),Bool.true_and]
 ·rw [decide_eq_false (show ¬ (n:Int) < (p.length:Int) by omega),Bool.false_and,List.getD_eq_getElem?_getD,List.getElem?_eq_none q]
  simp
theorem nB {L:Nat} (h:L<=24): -100000<=((L:Nat):Int) + 1 /\ ((L:Nat):Int) + 1<=100000 /\ ((((L:Nat):Int) + 1) - 1).toNat=L:=⟨by omega,by omega,by omega⟩
theorem GU {N:Int} {i L:Nat} (h:N=1 + (i:Int)) (hi:i < L):0<=N /\ N.toNat=i + 1 /\ 0<=N - 1 /\ N - 1 < (L:Int) /\ (N - 1).toNat=i /\ (¬ N < (L:Int)->L<=i + 1):=⟨by omega,by omega,by omega,by omega,by omega,fun _=>by omega⟩
theorem GV {a b i L:Nat} (h1:a<=50 * i) (h2:b<=a) (hi:i < L) (hL:L<=24):b<=1200:=by omega
theorem tO {l r f:Nat} (h:l<=2 * r) (hr:r<=25):l<=50 /\ r < 32 /\ (f<=l->∀ a,a<=1200->a + f<=100000):=⟨by omega,by omega,fun _ _ _=>by omega⟩
theorem yt {p:List (List Int)} (hl:p.length<=24) (fH:∀ r∈p,r.length<=25):cu [bc p]=some (((aV 1 (p.map led)).filter fun c=> !pS p c).map dC):=by
 rw [ye]
 refine b9 ?_
 refine bb [some (bc p),some (.list []),none,none,none] rfl ?_
 refine ko 1 p.length (fun i δ=>∃ a b c,δ=[some (bc p),some (.list (((aV 1 ((p.take i).map led)).filter fun c=> !pS p c).map dC)),a,b,c]) ?_ ⟨none,none,none,rfl⟩ ?_ ?_
 ·have e:aa (gC (.int (1))) (aa (g2 bo (fI df (aa (ae 0) ah)) (gC (.int (1)))) ah) [some (bc p),some (.list []),none,none,none]=some [.int 1,.int (((p.length:Nat):Int) + 1)]:=by
   show some [PyData.int 1,PyData.int ((((p.map dR).length:Nat):Int) + 1)]=_
   rw [List.length_map]
  refine (A5 e (by decide) (by decide) (nB hl).1 (nB hl).2.1).trans ?_
  rw [(nB hl).2.2]
 ·rintro i δ hi ⟨a,b,c,rfl⟩
  obtain ⟨r,er⟩:∃ r,p[i]?=some r:=⟨_,List.getElem?_eq_getElem hi⟩
  have hr:=fH r (List.mem_of_getElem? er)
  have ht:p.take (i + 1)=p.take i ++ [r]:=by rw [List.take_add_one,er]; rfl
  have GR:(p.take i).length=i:=by rw [List.length_take]; exact Nat.min_eq_left (Nat.le_of_lt hi)
  obtain ⟨acc,oh⟩:∃ acc,acc=((aV 1 ((p.take i).map led)).filter fun c=> !pS p c).map dC:=⟨_,rfl⟩
  rw [<- oh]
  have Nt:acc.length<=1200:=by
   have h1:=ic ((p.take i).map led) 1 (fun s hs=>by
    obtain ⟨t,ht,rfl⟩:=List.mem_map.mp hs
    exact (tO (f:=0) (iX (r:=t)) (fH t (List.mem_of_mem_take ht))).1)
   rw [List.length_map,GR] at h1
   have h2:=List.length_filter_le (fun c=> !pS p c) (aV 1 ((p.take i).map led))
   rw [oh,List.length_map]
   exact GV h1 h2 hi hl
  obtain ⟨Vz,XO,_⟩:=tO (f:=0) (iX (r:=r)) hr
  obtain ⟨N,hN⟩:∃ N:Int,N=1 + (i:Int):=⟨_,rfl⟩
  obtain ⟨m1,m2,m3,m4,m5,m6⟩:=GU hN hi
  rw [<- hN]
  obtain ⟨on,QV⟩:∃ on,on=p.getD (i + 1) []:=⟨_,rfl⟩
  have st:iI (gB (g2 Aj (ae 2) (fI df (aa (ae 0) ah)))) (a9 3 (g2 eX (ae 0) (ae 2))) bC [some (bc p),some (.list acc),some (.int N),some (.tuple []),c]=some (.nx [some (bc p),some (.list acc),some (.int N),some (dR on),c]):=by
   have hc:gB (g2 Aj (ae 2) (fI df (aa (ae 0) ah))) [some (bc p),some (.list acc),some (.int N),some (.tuple []),c]=some (decide (N < (p.length:Int))):=by
    refine bA ?_
    show some (PyData.bool (decide (N < (((p.map dR).length:Nat):Int))))=_
    rw [List.length_map]
   by_cases q:N < (p.length:Int)
   ·refine iW true (hc.trans (congrArg some (decide_eq_true q))) (fun _=>?_) fun z=>nomatch z
    refine (aS (au rfl rfl (D7 m1 q))).trans ?_
    rw [m2,<- QV]
    rfl
   ·refine iW false (hc.trans (congrArg some (decide_eq_false q))) (fun z=>nomatch z) fun _=>?_
    have:on=[]:=by rw [QV,List.getD_eq_getElem?_getD,List.getElem?_eq_none (m6 q)]; rfl
    rw [this]; rfl
  have ix:g2 eX (ae 0) (g2 gP (ae 2) (gC (.int (1)))) [some (bc p),some (.list acc),some (.int N),some (dR on),c]=some (dR r):=by
   refine (au rfl rfl (D7 (p:=p) (i:=N - 1) m3 m4)).trans ?_
   rw [m5,List.getD_eq_getElem?_getD,er]
   rfl
  have XQ:=tz (a:=ax (lq fA (aa (g2 eX (ae 0) (g2 gP (ae 2) (gC (.int (1))))) ah))) (b:=g2 eX (ae 0) (g2 gP (ae 2) (gC (.int (1))))) (δ:=[some (bc p),some (.list acc),some (.int N),some (dR on),c]) (r:=r) (by
   unfold ax lq
   rw [cons_of ix rfl]
   rfl) (.inr ix) XO
  refine ⟨_,[some (bc p),some (.list (((aV 1 ((p.take (i + 1)).map led)).filter fun c=> !pS p c).map dC)),some (.int N),some (dR on),some (.list ((led r).map .int))],rfl,?_,_,_,_,rfl⟩
  refine bK [some (bc p),some (.list acc),some (.int N),some (.tuple []),c] rfl ?_
  refine bK _ st ?_
  refine bK [some (bc p),some (.list acc),some (.int N),some (dR on),some (.list ((led r).map .int))] (aS (aI XQ)) ?_
  have XR:ba (aQ (ae 4)) 1 [2,3] (aD 0) (gB (g2 sj (ae 0) (ae 2))) (bB (aa (ae 0) (aa (g2 gP (ae 1) (ae 0)) ah))) [some (bc p),some (.list acc),some (.int N),some (dR on),some (.list ((led r).map .int))]=some ((((led r).filter fun b=> !decide (b∈on)).map fun b=>(b,N - b)).map dC):=by
   refine jv PyData.int dC (fun b=>(b,N - b)) (fun b=> !decide (b∈on)) (led r) rfl (Nat.le_trans Vz (by decide)) (fun b _=>?_) fun b _ _=>rfl
   refine bA (au rfl rfl ?_)
   unfold sj
   rw [tH]
   rfl
  refine (yp rfl XR (by simp only [List.length_map]; exact (tO (iX (r:=r)) hr).2.2 (List.length_filter_le (fun b=> !decide (b∈on)) (led r)) _ Nt)).trans ?_
  have key:((aV 1 ((p.take (i + 1)).map led)).filter fun c=> !pS p c).map dC=acc ++ (((led r).filter fun b=> !decide (b∈on)).map fun b=>(b,N - b)).map dC:=by
   rw [ht,List.map_append,show List.map led [r]=[led r] from rfl,ib,List.length_map,GR,List.filter_append,List.map_append,<- oh]
   congr 2
   unfold iM
   rw [List.filter_map]
   have ef:((fun c:Int×Int=> !pS p c) ∘ fun b:Int=>(b,((1 + i:Nat):Int) - b))=fun b=> !decide (b∈on):=by
    funext b
    show (!pS p (b,((1 + i:Nat):Int) - b))=_
    rw [GS,QV,Nat.add_comm 1 i]
   rw [ef]
   congr 1
   funext b
   rw [hN]
   push_cast
   rfl
  rw [key]
  rfl
 ·rintro δ' ⟨a,b,c,rfl⟩
  refine ret (.list (((aV 1 (p.map led)).filter fun c=> !pS p c).map dC)) ?_ (.mk rfl rfl)
  rw [List.take_length]
  rfl
def nY (P:Int->Nat->Bool):Nat->List Int->Nat->List (List Int)
 | 0,_,_=>[]
 | k + 1,th,n=>if th.filter (fun b=>P b n)=[] then [] else th.filter (fun b=>P b n) :: nY P k (led (th.filter fun b=>P b n)) (n + 1)
theorem iY {P:Int->Nat->Bool} {th:List Int} {n:Nat} (h:th.filter (fun b=>P b n)=[]):∀ k,nY P k th n=[]
 | 0=>rfl
 | k + 1=>by rw [nY,if_pos h]
theorem gG {P:Int->Nat->Bool} {th:List Int} {n k:Nat} (h:th.filter (fun b=>P b n)≠[]):nY P (k + 1) th n=th.filter (fun b=>P b n) :: nY P k (led (th.filter fun b=>P b n)) (n + 1):=by rw [nY,if_neg h]
theorem zM {P P':Int->Nat->Bool} {e:Nat} (h1:∀ b n,n < e->P b n=P' b n) (h2:∀ b,P b e=false):∀ (m k:Nat) (th:List Int) (n:Nat),n + m=e->nY P (m + k) th n=nY P' m th n
 | 0,k,th,n,h=>by
   have:n=e:=by omega
   subst this
   exact iY (List.filter_eq_nil_iff.mpr fun b _=>by rw [h2 b]; simp) _
 | m + 1,k,th,n,h=>by
   have hf:th.filter (fun b=>P b n)=th.filter (fun b=>P' b n):=List.filter_congr fun b _=>h1 b n (by omega)
   rw [show m + 1 + k=m + k + 1 by omega]
   by_cases q:th.filter (fun b=>P b n)=[]
   ·rw [iY q,iY (hf ▸ q)]
   ·rw [gG q,gG (by rw [<- hf]; exact q),hf,zM h1 h2 m k _ (n + 1) (by omega)]
def Rw (th:List Int) (n:Nat):Prop:=mq th /\ ∀ x∈th,0<=x /\ x<=(n:Int)
theorem Rw.EM {th:List Int} {n:Nat} (h:Rw th n) (p:Int->Bool):Rw (th.filter p) n:=⟨h.1.sublist List.filter_sublist,fun x hx=>h.2 x (List.filter_sublist.subset hx)⟩
theorem Rw.led {th:List Int} {n:Nat} (h:Rw th n):Rw (led th) (n + 1):=⟨fP,fun x hx=>by
 rcases d3.mp hx with q | q
 ·have:=h.2 x q; omega
 ·have:=h.2 _ q; omega⟩
theorem Rw.len {th:List Int} {n:Nat} (h:Rw th n):th.length<=n + 1:=by
 have:=pN h.1 h.2
 omega
theorem VA:Rw [0] 0:=⟨by unfold mq; simp,by intro x hx; simp at hx; subst hx; decide⟩
theorem zN {P:Int->Nat->Bool}:∀ (k:Nat) (th:List Int) (n:Nat),Rw th n->(nY P k th n).length<=k /\ ∀ r∈nY P k th n,r.length<=n + k
 | 0,_,_,_=>⟨Nat.le_refl _,fun r hr=>by simp [nY] at hr⟩
 | k + 1,th,n,h=>by
   by_cases q:th.filter (fun b=>P b n)=[]
   ·rw [iY q]; exact ⟨Nat.zero_le _,fun r hr=>by simp at hr⟩
   ·obtain ⟨a,b⟩:=zN (P:=P) k _ (n + 1) (h.EM fun b=>P b n).led
    rw [gG q]
    refine ⟨by rw [List.length_cons]; omega,fun r hr=>?_⟩
    rcases List.mem_cons.mp hr with z | z
    ·subst z; have:=(h.EM fun b=>P b n).len; omega
    ·have:=b r z; omega
theorem GW {l:List Int} {p:Int->Bool}:(l.filter p).length<=l.length:=List.length_filter_le _ _
theorem Bc {r:List Int} (h:r.length < 32):eE [.list (r.map .int)]=some ((led r).map .int):=by
 rw [vw]
 exact b9 (ret (.list ((led r).map .int)) (aI (tz (a:=ax (lq fA (aa (ae 0) ah))) (b:=ae 0) (r:=r) rfl (.inl rfl) h)) (.mk rfl rfl))
theorem Eg {f:Addr} {c:Ca} {q:Str} {G:List D->Option D} {n i:Nat} {g:DS->Option (List D)} {δ:DS} {ds:List D} {r:Option D} (h0:δ[i]?=some (some (gA f c q))) (h:g δ=some ds) (hn:ds.length=n) (hG:G ds=r):nq f c q G n i g δ=r:=by
 unfold nq
 rw [if_pos h0,h,Option.bind_some,if_pos hn]
 exact hG
theorem KI {g:DS->Option D} {δ:DS} {b:Bool} (h:g δ=some (.bool b)):iJ g δ=some b:=by unfold iJ; rw [h]; rfl
theorem Bd {c:DS->Option Bool} {b:DS->Option Res} {β:Type} {f:Res->Option β} {R:β->Prop} {δ:DS} (W:Nat->DS->Prop) (d:D) (m:Nat) (h:W m δ)
  (hs:∀ m δ,W m δ->c δ=some true /\ ((∃ δ' m',b δ=some (.nx δ') /\ m' < m /\ W m' δ') \/ b δ=some (.rt d))) (k:fj (f (.rt d)) R):fj ((ir c b δ).bind f) R:=by
 obtain ⟨r,e,hr⟩:=rk W (fun _ r=>r=.rt d) m δ h fun m δ w=>by
  obtain ⟨h1,h2⟩:=hs m δ w
  rcases h2 with ⟨δ',m',a,b,c⟩ | h2
  ·exact .inr ⟨h1,.inl ⟨δ',m',.inl a,b,c,fun _ h=>h⟩⟩
  ·exact .inr ⟨h1,.inr (.inr ⟨d,h2,rfl⟩)⟩
 subst hr
 rw [e]
 exact k
theorem tP {G:List D->Option D} {P:Int->Nat->Bool} (hG:∀ (b:Int) (n:Nat),0<=b->b<=(n:Int)->n<=24->G [.int b,.int (n:Nat)]=some (.bool (P b n))) (hz:∀ b,P b 24=false) (f:Addr) (c:Ca) (q:Str):
  cV f c q G [gA f c q]=some (bc (nY P 25 [0] 0)):=by
 rw [ti]
 refine b9 ?_
 refine bb [some (gA f c q),some (.list []),none,none,none] rfl ?_
 refine bb [some (gA f c q),some (.list []),some (.list (([0]:List Int).map .int)),none,none] rfl ?_
 refine Bd (fun m δ=>∃ (pl:List (List Int)) (th:List Int) (x y:Option D),δ=[some (gA f c q),some (.list (pl.map dR)),some (.list (th.map .int)),x,y] /\ pl.length + m=25 /\ 1<=m /\ Rw th pl.length /\ pl ++ nY P m th pl.length=nY P 25 [0] 0)
  (bc (nY P 25 [0] 0)) 25 ⟨[],[0],none,none,rfl,rfl,by decide,VA,rfl⟩ ?_ (.mk rfl rfl)
 rintro m δ ⟨pl,th,x,y,rfl,hm,Oy,hw,hp⟩
 refine ⟨rfl,?_⟩
 have hlen:=hw.len
 have e1:fI df (aa (ae 1) ah) [some (gA f c q),some (.list (pl.map dR)),some (.list (th.map .int)),x,y]=some (.int (pl.length:Nat)):=by
  show some (PyData.int (((pl.map dR).length:Nat):Int))=_
  rw [List.length_map]
 have e2:ba (aQ (ae 2)) 1 [0,3] (aD 0) (iJ (nq f c q G 2 1 (aa (ae 0) (aa (ae 2) ah)))) (ae 0) [some (gA f c q),some (.list (pl.map dR)),some (.list (th.map .int)),some (.int (pl.length:Nat)),y]=some ((th.filter fun b=>P b pl.length).map .int):=by
  refine (jv PyData.int PyData.int (fun x=>x) (fun b=>P b pl.length) th rfl (by omega) (fun b hb=>?_) fun b _ _=>rfl).trans (by rw [List.map_id'])
  have:=hw.2 b hb
  exact KI (Eg rfl (cons_of rfl (cons_of rfl rfl)) rfl (hG b pl.length this.1 this.2 (by omega)))
 have hf:=GW (l:=th) (p:=fun b=>P b pl.length)
 have e3:gB (g2 jD (fI df (aa (ae 4) ah)) (gC (.int 0))) [some (gA f c q),some (.list (pl.map dR)),some (.list (th.map .int)),some (.int (pl.length:Nat)),some (.list ((th.filter fun b=>P b pl.length).map .int))]=some (decide (th.filter (fun b=>P b pl.length)=[])):=by
  refine bA ?_
  show some (PyData.bool (decide (((((th.filter fun b=>P b pl.length).map PyData.int).length:Nat):Int)=0)))=_
  rw [List.length_map]
  congr 3
  rw [<- List.length_eq_zero_iff]
  simp
 by_cases hq:th.filter (fun b=>P b pl.length)=[]
 ·have Ld:pl=nY P 25 [0] 0:=by rw [iY hq,List.append_nil] at hp; exact hp
  rw [<- Ld]
  refine .inr ?_
  ·refine bK _ (aS e1) (bK _ (aS (aI e2)) ?_)
   exact oB (iW true (e3.trans (by rw [decide_eq_true hq])) (fun _=>rfl) fun z=>nomatch z)
 ·have hn:pl.length≠24:=fun h=>hq (List.filter_eq_nil_iff.mpr fun b _=>by rw [h,hz b]; simp)
  obtain ⟨k,rfl⟩:∃ k,m=k + 1:=⟨m - 1,by omega⟩
  have e4:=Bc (r:=th.filter fun b=>P b pl.length) (by omega)
  refine .inl ⟨[some (gA f c q),some (.list ((pl ++ [th.filter fun b=>P b pl.length]).map dR)),some (.list ((led (th.filter fun b=>P b pl.length)).map .int)),some (.int (pl.length:Nat)),some (.list ((th.filter fun b=>P b pl.length).map .int))],k,?_,by omega,⟨_,_,_,_,rfl,by rw [List.length_append,List.length_singleton]; omega,by omega,?_,?_⟩⟩
  ·refine bK _ (aS e1) (bK _ (aS (aI e2)) (bK [some (gA f c q),some (.list (pl.map dR)),some (.list (th.map .int)),some (.int (pl.length:Nat)),some (.list ((th.filter fun b=>P b pl.length).map .int))] (ju (e3.trans (by rw [decide_eq_false hq]))) (bK [some (gA f c q),some (.list (pl.map dR)),some (.list (th.map .int)),some (.int (pl.length:Nat)),some (.list ((th.filter fun b=>P b pl.length).map .int))] (ju (bA (b:=false) ?_)) (bK _ (pO (ds:=pl.map dR) (d:=dR (th.filter fun b=>P b pl.length)) rfl rfl (by rw [List.length_map]; omega)) ?_))))
   ·show some (PyData.bool (decide ((pl.length:Int)=24)))=_
    rw [decide_eq_false (by omega)]
   ·refine (aS (aI (bO (cons_of rfl rfl) rfl e4))).trans ?_
    rw [List.map_append]
    rfl
  ·rw [List.length_append,List.length_singleton]
   exact (hw.EM _).led
  ·rw [List.length_append,List.length_singleton,List.append_assoc,List.singleton_append,<- gG hq]
   exact hp
theorem vH {P:Int->Nat->Bool} {m n:Nat} {th:List Int} (h:1<=m):(nY P m th n).getD 0 []=th.filter fun b=>P b n:=by
 cases m with
 | zero=>omega
 | succ m=>
   by_cases hq:th.filter (fun b=>P b n)=[]
   ·rw [iY hq,hq]; rfl
   ·rw [gG hq]; rfl
theorem vI:led []=[]:=zo (by simp) (by intro z; simp)
theorem Eh {P:Int->Nat->Bool} (m:Nat):∀ (k:Nat) (th:List Int) (n:Nat),k + 1 < m->(nY P m th n).getD (k + 1) []=(led ((nY P m th n).getD k [])).filter fun b=>P b (n + (k + 1)):=by
 induction m with
 | zero=>intro k th n h; omega
 | succ m ih=>
   intro k th n h
   by_cases hq:th.filter (fun b=>P b n)=[]
   ·rw [iY hq]
    show []=(led []).filter _
    rw [vI]; rfl
   ·rw [gG hq]
    cases k with
    | zero=>exact vH (by omega)
    | succ k=>
      have:=ih k (led (th.filter fun b=>P b n)) (n + 1) (by omega)
      rw [show n + 1 + (k + 1)=n + (k + 1 + 1) by omega] at this
      exact this
theorem GX {P:Int->Nat->Bool} (k:Nat):∀ (r:List Int) (n:Nat),D4 r (nY P k (led r) n):=by
 induction k with
 | zero=>intro r n; exact trivial
 | succ k ih=>
   intro r n
   by_cases hq:(led r).filter (fun b=>P b n)=[]
   ·rw [iY hq]; exact trivial
   ·rw [gG hq]
    exact ⟨⟨hq,(show mq (led r) from fP).sublist List.filter_sublist,fun x hx=>List.filter_sublist.subset hx⟩,ih _ _⟩
structure Sh (P:Int->Nat->Bool) (s:List (List Int)):Prop where
 pl:Pl s
 Lx:s.length<=24
 Ly:∀ r∈s,r.length<=25
 r0:s.getD 0 []=[0]
 rS:∀ k,s.getD (k + 1) []=(led (s.getD k [])).filter fun b=>P b (k + 1)
theorem KJ {P:Int->Nat->Bool} (h0:P 0 0=true) (hz:∀ b n,24<=n->P b n=false):Sh P (nY P 25 [0] 0):=by
 have e0:([0]:List Int).filter (fun b=>P b 0)=[0]:=by simp [h0]
 have e:nY P 25 [0] 0=nY P 24 [0] 0:=zM (e:=24) (fun _ _ _=>rfl) (fun b=>hz b 24 (Nat.le_refl _)) 24 1 [0] 0 rfl
 have hl:=zN (P:=P) 24 [0] 0 VA
 rw [<- e] at hl
 refine ⟨⟨_,?_,GX (P:=P) 24 [0] 1⟩,hl.1,fun r hr=>by have:=hl.2 r hr; omega,(vH (by decide)).trans e0,fun k=>?_⟩
 ·rw [gG (by rw [e0]; simp),e0]
 ·rcases Nat.lt_or_ge (k + 1) 25 with h | h
  ·have:=Eh (P:=P) 25 k [0] 0 h
   rwa [Nat.zero_add] at this
  ·rw [List.getD_eq_getElem?_getD,List.getElem?_eq_none (by omega)]
   symm
   refine List.filter_eq_nil_iff.mpr fun b _=>?_
   rw [hz b (k + 1) (by omega)]; simp
theorem nD {c:Int×Int} {q:List (List Int)}:∀ {n:Nat},c∈aV n q->∃ k,k < q.length /\ c.1∈q.getD k [] /\ c.1 + c.2=((n + k:Nat):Int):=by
 induction q with
 | nil=>intro n h; simp [aV] at h
 | cons r q ih=>
   intro n h
   rw [aV,List.mem_append] at h
   rcases h with h | h
   ·obtain ⟨b,hb,rfl⟩:=List.mem_map.mp h
    exact ⟨0,by simp,by simpa using hb,by show b + ((n:Int) - b)=_; omega⟩
   ·obtain ⟨k,h1,h2,h3⟩:=ih h
    exact ⟨k + 1,by simpa using h1,by simpa using h2,by rw [h3]; omega⟩
theorem vJ {q:List (List Int)}:∀ {n k:Nat} {c:Int×Int},c.1∈q.getD k []->c.1 + c.2=((n + k:Nat):Int)->c∈aV n q:=by
 induction q with
 | nil=>intro n k c h; simp at h
 | cons r q ih=>
   intro n k c hb e
   show _∈iM n r ++ aV (n + 1) q
   cases k with
   | zero=>exact List.mem_append_left _ (List.mem_map.mpr ⟨c.1,hb,Prod.ext rfl (by show (n:Int) - c.1=c.2; omega)⟩)
   | succ k=>exact List.mem_append_right _ (ih (n:=n + 1) (k:=k) hb (by omega))
theorem g8 {p:List (List Int)} {c:Int×Int}:jd p c=true↔∃ k:Nat,c.1∈p.getD k [] /\ c.1 + c.2=(k:Int):=by
 unfold jd
 rw [Bool.and_eq_true,Bool.and_eq_true,decide_eq_true_eq,decide_eq_true_eq,decide_eq_true_eq]
 constructor
 ·rintro ⟨⟨h1,h2⟩,h3⟩
  exact ⟨_,h3,by omega⟩
 ·rintro ⟨k,h1,h2⟩
  have e:(c.1 + c.2).toNat=k:=by omega
  refine ⟨⟨by omega,?_⟩,by rw [e]; exact h1⟩
  rcases Nat.lt_or_ge k p.length with h | h
  ·omega
  ·rw [List.getD_eq_getElem?_getD,List.getElem?_eq_none h] at h1
   simp at h1
theorem jT {p:List (List Int)} {c:Int×Int}:c∈aV 0 p↔jd p c=true:=by
 rw [g8]
 constructor
 ·intro h
  obtain ⟨k,_,h2,h3⟩:=nD h
  exact ⟨k,h2,by omega⟩
 ·rintro ⟨k,h1,h2⟩
  exact vJ h1 (by omega)
def qA (p:List (List Int)) (c:Int×Int):Prop:=c=(0,0) \/ ∃ k:Nat,c.1∈led (p.getD k []) /\ c.1 + c.2=((k + 1:Nat):Int)
theorem vK (p:List (List Int)) (k:Nat):(p.map led).getD k []=led (p.getD k []):=by
 rw [List.getD_eq_getElem?_getD,List.getD_eq_getElem?_getD,List.getElem?_map]
 cases p[k]? with
 | none=>exact vI.symm
 | some r=>rfl
theorem Ei {p:List (List Int)} {c:Int×Int}:c∈(0,0) :: aV 1 (p.map led)↔qA p c:=by
 rw [List.mem_cons]
 unfold qA
 refine or_congr Iff.rfl ⟨fun h=>?_,fun ⟨k,h1,h2⟩=>?_⟩
 ·obtain ⟨k,_,h2,h3⟩:=nD h
  rw [vK] at h2
  exact ⟨k,h2,by omega⟩
 ·exact vJ (k:=k) (by rw [vK]; exact h1) (by omega)
theorem iD {p:List (List Int)} {c:Int×Int}:c∈aw p↔qA p c /\ jd p c=false:=by
 unfold aw
 rw [List.mem_filter,Ei,Bool.not_eq_true']
theorem KL {p:List (List Int)} {c:Int×Int} (h:jd p c=true):qA p (c.1 + 1,c.2):=by
 obtain ⟨k,h1,h2⟩:=g8.mp h
 exact .inr ⟨k,d3.mpr (.inr (by show c.1 + 1 - 1∈_; rw [Int.add_sub_cancel]; exact h1)),by show c.1 + 1 + c.2=_; omega⟩
theorem KN {p:List (List Int)} {c:Int×Int} (h:jd p c=true):qA p (c.1,c.2 + 1):=by
 obtain ⟨k,h1,h2⟩:=g8.mp h
 exact .inr ⟨k,d3.mpr (.inl h1),by show c.1 + (c.2 + 1)=_; omega⟩
theorem Nu {p:List (List Int)} (hp:Pl p):jd p (0,0)=true:=by
 obtain ⟨q,rfl,_⟩:=hp.ex
 exact g8.mpr ⟨0,by simp,rfl⟩
theorem Ej {p:List (List Int)} (hp:Pl p):aw p=(aV 1 (p.map led)).filter fun c=> !jd p c:=by
 unfold aw
 rw [List.filter_cons_of_neg]
 rw [Nu hp]; decide
theorem zO {q:List (List Int)}:∀ {n:Nat},(aV n q).Pairwise fun a c=>a.1 + a.2<=c.1 + c.2:=by
 induction q with
 | nil=>intro n; exact .nil
 | cons r q ih=>
   intro n
   show (iM n r ++ aV (n + 1) q).Pairwise _
   refine List.pairwise_append.mpr ⟨?_,ih,fun a ha c hc=>?_⟩
   ·unfold iM
    refine List.pairwise_map.mpr (List.pairwise_of_forall fun a c=>?_)
    show a + ((n:Int) - a)<=c + ((n:Int) - c)
    omega
   ·obtain ⟨b,_,rfl⟩:=List.mem_map.mp ha
    obtain ⟨k,_,_,h3⟩:=nD hc
    show b + ((n:Int) - b)<=_
    omega
def k9 (T:Int×Int->Bool) (c:Int×Int):Bool×Bool:=(T c,!T c)
def GY (x y:Bool×Bool):Bool×Bool:=(x.1 || y.1,x.2 || y.2)
def EX (p:List (List Int)) (T:Int×Int->Bool):Nat->Int×Int->Bool×Bool
 | 0,c=>k9 T c
 | k + 1,c=>if jd p c=true then GY (EX p T k (c.1 + 1,c.2)) (EX p T k (c.1,c.2 + 1)) else k9 T c
def An (p:List (List Int)) (T:Int×Int->Bool) (c:Int×Int):Bool×Bool:=EX p T ((p.length:Int) - (c.1 + c.2)).toNat c
theorem pT {p:List (List Int)} {c:Int×Int} (h:jd p c=true):0<=c.1 + c.2 /\ c.1 + c.2 < (p.length:Int):=by
 unfold jd at h
 rw [Bool.and_eq_true,Bool.and_eq_true,decide_eq_true_eq,decide_eq_true_eq] at h
 exact h.1
theorem Ek {p:List (List Int)} {T:Int×Int->Bool} {c:Int×Int} (h:jd p c=true):An p T c=GY (An p T (c.1 + 1,c.2)) (An p T (c.1,c.2 + 1)):=by
 obtain ⟨h1,h2⟩:=pT h
 obtain ⟨k,hk⟩:∃ k:Nat,((p.length:Int) - (c.1 + c.2)).toNat=k + 1:=⟨((p.length:Int) - (c.1 + c.2)).toNat - 1,by omega⟩
 have e1:((p.length:Int) - (c.1 + 1 + c.2)).toNat=k:=by omega
 have e2:((p.length:Int) - (c.1 + (c.2 + 1))).toNat=k:=by omega
 unfold An
 show EX p T _ c=GY (EX p T ((p.length:Int) - (c.1 + 1 + c.2)).toNat _) (EX p T ((p.length:Int) - (c.1 + (c.2 + 1))).toNat _)
 rw [hk,e1,e2,EX,if_pos h]
theorem pU {p:List (List Int)} {T:Int×Int->Bool} {c:Int×Int} (h:jd p c=false):An p T c=k9 T c:=by
 unfold An
 cases ((p.length:Int) - (c.1 + c.2)).toNat with
 | zero=>rfl
 | succ k=>rw [EX,if_neg (by rw [h]; decide)]
theorem g9 {p:List (List Int)} {T:Int×Int->Bool} (c:Int×Int):(An p T c).1=true \/ (An p T c).2=true:=by
 unfold An
 generalize ((p.length:Int) - (c.1 + c.2)).toNat=k
 induction k generalizing c with
 | zero=>
   unfold EX k9
   cases T c <;> simp
 | succ k ih=>
   rw [EX]
   split
   ·unfold GY
    have:=ih (c.1 + 1,c.2)
    rcases this with h | h <;> simp [h]
   ·unfold k9
    cases T c <;> simp
def wants (p:List (List Int)) (T:Int×Int->Bool):List (Int×Int):=(aV 0 p).filter fun c=>decide (c=(0,0)) || decide (An p T c=(true,true))
def eC (p:List (List Int)) (T:Int×Int->Bool):List (List Int):=nY (fun b n=>decide ((b,(n:Int) - b)∈wants p T)) 25 [0] 0
def iZ (p:List (List Int)) (T:Int×Int->Bool):List (Int×Int):=(aw (eC p T)).filter fun c=>decide (An p T c=(true,false))
theorem d6 {p:List (List Int)} {T:Int×Int->Bool} {c:Int×Int}:c∈wants p T↔jd p c=true /\ (c=(0,0) \/ An p T c=(true,true)):=by
 unfold wants
 rw [List.mem_filter,jT,Bool.or_eq_true,decide_eq_true_eq,decide_eq_true_eq]
theorem pV {p:List (List Int)} {T:Int×Int->Bool} (hp:Pl p) (hl:p.length<=24):Sh (fun b n=>decide ((b,(n:Int) - b)∈wants p T)) (eC p T):=by
 refine KJ ?_ fun b n hn=>?_
 ·exact decide_eq_true (d6.mpr ⟨Nu hp,.inl rfl⟩)
 ·refine decide_eq_false fun h=>?_
  have:=pT (d6.mp h).1
  have h2:b + ((n:Int) - b) < (p.length:Int):=this.2
  omega
theorem tQ {p:List (List Int)} {T:Int×Int->Bool} (hp:Pl p) (hl:p.length<=24) {c:Int×Int}:jd (eC p T) c=true↔qA (eC p T) c /\ c∈wants p T:=by
 have S:=pV (T:=T) hp hl
 rw [g8]
 constructor
 ·rintro ⟨k,h1,h2⟩
  cases k with
  | zero=>
    rw [S.r0] at h1
    have e:c=(0,0):=Prod.ext (by simpa using h1) (by have:c.1=0:=(by simpa using h1); show c.2=0; omega)
    rw [e]
    exact ⟨.inl rfl,d6.mpr ⟨Nu hp,.inl rfl⟩⟩
  | succ k=>
    rw [S.rS,List.mem_filter,decide_eq_true_eq] at h1
    refine ⟨.inr ⟨k,h1.1,h2⟩,?_⟩
    have e:(c.1,((k + 1:Nat):Int) - c.1)=c:=Prod.ext rfl (by show _ - _=_; omega)
    rw [e] at h1
    exact h1.2
 ·rintro ⟨h | ⟨k,h1,h2⟩,hw⟩
  ·subst h
   exact ⟨0,by rw [S.r0]; simp,rfl⟩
  ·refine ⟨k + 1,?_,h2⟩
   rw [S.rS,List.mem_filter,decide_eq_true_eq]
   have e:(c.1,((k + 1:Nat):Int) - c.1)=c:=Prod.ext rfl (by show _ - _=_; omega)
   rw [e]
   exact ⟨h1,hw⟩
theorem vL {p:List (List Int)} {T:Int×Int->Bool} {c:Int×Int}:c∈iZ p T↔c∈aw (eC p T) /\ An p T c=(true,false):=by
 unfold iZ
 rw [List.mem_filter,decide_eq_true_eq]
theorem El {p:List (List Int)} {T:Int×Int->Bool} (hp:Pl p) (hl:p.length<=24) {c:Int×Int} (h:qA (eC p T) c):qA p c:=by
 rcases h with h | ⟨k,h1,h2⟩
 ·exact .inl h
 ·refine .inr ⟨k,?_,h2⟩
  have sub:∀ x,x∈(eC p T).getD k []->x∈p.getD k []:=fun x hx=>by
   have hg:jd (eC p T) (x,(k:Int) - x)=true:=g8.mpr ⟨k,hx,by show x + (_ - x)=_; omega⟩
   obtain ⟨j,h3,h4⟩:=g8.mp (d6.mp ((tQ hp hl).mp hg).2).1
   have h5:x + ((k:Int) - x)=(j:Int):=h4
   have:j=k:=by omega
   rw [<- this]; exact h3
  rw [d3] at h1 ⊢
  exact h1.imp (sub _) (sub _)
abbrev kC (c:Int×Int):List Key:=[.inl c.1,.inl c.2]
theorem Em {a c:Int×Int}:kC a=kC c↔a=c:=yo.trans ⟨fun h=>Prod.ext h.1 h.2,fun h=>⟨congrArg Prod.fst h,congrArg Prod.snd h⟩⟩
def Ky (kds:List (D×D)) (ks:List (Int×Int)):Prop:=kds.map (·.1)=ks.map dC
theorem Ky.fn {kds:List (D×D)} {ks:List (Int×Int)} (h:Ky kds ks):rg kds=false:=by
 cases kds with
 | nil=>rfl
 | cons p r=>
   cases ks with
   | nil=>cases h
   | cons c ks=>
     obtain ⟨x,y⟩:=p
     have e:x=dC c:=(List.cons.inj h).1
     subst e
     rfl
theorem Ky.look {kds:List (D×D)} {ks:List (Int×Int)} (h:Ky kds ks) (c:Int×Int):(bz kds (kC c)).isSome=decide (c∈ks):=by
 rw [<- hZ,show (kds.any fun p=>decide (keyOf p.1=some (kC c)))=(kds.map (·.1)).any fun x=>decide (keyOf x=some (kC c)) by rw [List.any_map]; rfl,h,List.any_map,Bool.eq_iff_iff,List.any_eq_true,decide_eq_true_eq]
 constructor
 ·rintro ⟨x,hx,e⟩
  have e:decide (some (kC x)=some (kC c))=true:=e
  rw [decide_eq_true_eq] at e
  rw [<- Em.mp (Option.some.inj e)]; exact hx
 ·intro hc
  exact ⟨c,hc,by show decide (some (kC c)=some (kC c))=true; rw [decide_eq_true rfl]⟩
theorem Ky.put {kds:List (D×D)} {ks:List (Int×Int)} (h:Ky kds ks) (c:Int×Int) (d:D):Ky (eZ kds (kC c) d) (if c∈ks then ks else ks ++ [c]):=by
 unfold eZ Ky
 rw [hZ,h.look c]
 by_cases z:c∈ks
 ·rw [if_pos (decide_eq_true z),if_pos z,List.map_map,<- h]
  refine List.map_congr_left fun p _=>?_
  show (if keyOf p.1=some (kC c) then (p.1,d) else p).1=p.1
  split <;> rfl
 ·rw [if_neg (by rw [decide_eq_false z]; exact Bool.false_ne_true),if_neg z,List.map_append,List.map_append,h]
  rfl
set_option tactic.hygienic true in
theorem KO {α:Type} {ks:List α} {c x:α} [Decidable (c∈ks)]:x∈(if c∈ks then ks else ks ++ [c])↔x∈ks \/ x=c:=by
 split
 ·rename_i h
  exact ⟨.inl,fun z=>z.elim id fun q=>by rw [q]; exact h⟩
 ·rw [List.mem_append,List.mem_singleton]
theorem tR {α:Type} {l:List α} {i:Nat} {x:α} (h:l[i]?=some x):l.take (i + 1)=l.take i ++ [x]:=by
 rw [List.take_add_one,h]; rfl
theorem GZ {gk gd:DS->Option D} {δ:DS} {kds:List (D×D)} {ks:List (Int×Int)} {c:Int×Int} (h:Ky kds ks) (h1:gk δ=some (dC c)) (h2:gd δ=some (Qn kds)):zt gk gd δ=some (.bool (decide (c∈ks))):=by
 unfold zt
 rw [h1,h2,<- h.look c]
 rfl
theorem KP {b:Bool} {gk gd:DS->Option D} {δ:DS} {kds:List (D×D)} {ks:List (Int×Int)} {c:Int×Int} (h:Ky kds ks) (h1:gk δ=some (dC c)) (h2:gd δ=some (.dict kds)):Ge b gk gd δ=some (.bool (decide (c∈ks) == b)):=by
 unfold Ge
 rw [h1,h2,<- h.look c]
 show (if rg kds=true then none else _)=_
 rw [h.fn]; rfl
theorem G0 {gi:DS->Option (List D)} {t:D->DS->Option DS} {b:DS->Option Res} {δ:DS} {ds:List D} {r:Option Res} (h1:gi δ=some ds) (h2:ki t b ds δ=r):eL gi t b δ=r:=by unfold eL; rw [h1]; exact h2
theorem ie {g:DS->Option D} {δ:DS} {l:List D} (h:g δ=some (.list l)):aQ g δ=some l:=by unfold aQ; rw [h]; rfl
theorem vM {cs:List (Int×Int)} (h0:(0,0)∈cs) (hz:∀ c∈cs,c.1 + c.2 < 24) (hl:cs.length < 100000):du [.list (cs.map dC)]=some (bc (nY (fun b n=>decide ((b,(n:Int) - b)∈cs)) 25 [0] 0)):=by
 rw [vz]
 refine b9 ?_
 refine bb [some (.list (cs.map dC)),some (.dict []),none] rfl ?_
 refine g4 dC cs (fun i δ=>∃ kds ks a,δ=[some (.list (cs.map dC)),some (.dict kds),a] /\ Ky kds ks /\ (∀ c,c∈ks↔c∈cs.take i) /\ kds.length<=i) rfl ⟨[],[],none,rfl,rfl,fun c=>by simp,Nat.le_refl _⟩ ?_ ?_
 ·rintro i c δ hi ⟨kds,ks,a,rfl,hk,hm,Nv⟩
  have C7:=(List.getElem?_eq_some_iff.mp hi).1
  refine ⟨_,[some (.list (cs.map dC)),some (.dict (eZ kds (kC c) (.bool true))),some (dC c)],rfl,my (c:=c) rfl rfl rfl (by omega),_,_,_,rfl,hk.put c (.bool true),fun x=>?_,?_⟩
  ·rw [KO,hm,tR hi,List.mem_append,List.mem_singleton]
  ·have:=jq kds (kC c) (.bool true)
   omega
 ·rintro δ' ⟨kds,ks,a,rfl,hk,hm,Nv⟩
  rw [List.take_length] at hm
  refine nv (bA (b:=false) ((KP (c:=(0,0)) hk rfl rfl).trans ?_)) ?_
  ·rw [decide_eq_true ((hm (0,0)).mpr h0)]; rfl
  ·have e:(fun (b:Int) (n:Nat)=>decide ((b,(n:Int) - b)∈cs))=fun (b:Int) (n:Nat)=>decide ((b,(n:Int) - b)∈ks):=by
    funext b n
    exact decide_eq_decide.mpr (hm _).symm
   rw [e]
   refine ret (bc (nY (fun b n=>decide ((b,(n:Int) - b)∈ks)) 25 [0] 0)) ?_ (.mk rfl rfl)
   show (AM fun f c a=>cV f ⟨c,a,kds⟩ _ (u6 _ kds) [gA f ⟨c,a,kds⟩ _])=_
   refine Gn fun f c a=>tP (fun b n _ _ _=>?_) (fun b=>?_) f ⟨c,a,kds⟩ _
   ·exact GZ (c:=(b,(n:Int) - b)) hk rfl rfl
   ·refine decide_eq_false fun h=>?_
    have:b + (((24:Nat):Int) - b) < 24:=hz _ ((hm _).mp h)
    omega
def tx:Bool×Bool->D
 | (true,true)=>.str "not settled"
 | (true,false)=>.str "refused"
 | (false,_)=>.str "let by"
theorem yu {x y:Bool×Bool} (hx:x.1=true \/ x.2=true) (hy:y.1=true \/ y.2=true):jD (tx x) (tx y)=some (.bool (decide (x=y))):=by
 obtain ⟨a,b⟩:=x
 obtain ⟨c,d⟩:=y
 cases a <;> cases b <;> cases c <;> cases d <;> first
  | (rcases hx with h | h <;> cases h; done)
  | (rcases hy with h | h <;> cases h; done)
  | exact yq (by decide +kernel) (by decide +kernel) (by decide +kernel)
theorem or_self (x:Bool×Bool):GY x x=x:=by
 obtain ⟨a,b⟩:=x
 cases a <;> cases b <;> rfl
theorem Nw {x y:Bool×Bool} (hx:x.1=true \/ x.2=true) (hy:y.1=true \/ y.2=true) (h:x≠y):GY x y=(true,true):=by
 obtain ⟨a,b⟩:=x
 obtain ⟨c,d⟩:=y
 revert hx hy h
 cases a <;> cases b <;> cases c <;> cases d <;> simp [GY]
theorem En {c:DS->Option Bool} {a b:DS->Option D} {δ:DS} {r:Option D} (x:Bool) (h:c δ=some x) (h1:x=true->a δ=r) (h2:x=false->b δ=r):Cy c a b δ=r:=by
 unfold Cy
 rw [h,Option.bind_some]
 cases x with
 | true=>exact h1 rfl
 | false=>exact h2 rfl
def Hs (kds:List (D×D)) (S:Int×Int->Prop) (f:Int×Int->D):Prop:=∀ c,S c->bz kds (kC c)=some (f c)
theorem Hs.put {kds:List (D×D)} {S S':Int×Int->Prop} {f:Int×Int->D} (h:Hs kds S f) (c:Int×Int) (hS:∀ x,S' x->S x \/ x=c):Hs (eZ kds (kC c) (f c)) S' f:=by
 intro x hx
 rw [rG]
 by_cases e:x=c
 ·rw [if_pos (Em.mpr e),e]
 ·rw [if_neg (fun z=>e (Em.mp z))]
  exact h x ((hS x hx).resolve_right e)
theorem G1 {R:List (Int×Int)} (h:R.Pairwise fun a c=>c.1 + c.2<=a.1 + a.2) {i:Nat} {c x:Int×Int} (hc:R[i]?=some c) (hx:x∈R) (hl:c.1 + c.2 < x.1 + x.2):x∈R.take i:=by
 have e:R=R.take i ++ c :: R.drop (i + 1):=by
  have hi:=(List.getElem?_eq_some_iff.mp hc)
  obtain ⟨h1,h2⟩:=hi
  rw [<- h2,<- List.drop_eq_getElem_cons h1,List.take_append_drop]
 rw [e,List.mem_append] at hx
 rcases hx with hx | hx
 ·exact hx
 ·exfalso
  rw [e] at h
  have h2:=(List.pairwise_append.mp h).2.1
  rcases List.mem_cons.mp hx with z | z
  ·rw [z] at hl; omega
  ·have:=(List.pairwise_cons.mp h2).1 x z
   omega
theorem rP {p:List (List Int)} (hl:p.length<=24) (fH:∀ r∈p,r.length<=25):(aw p).length<=1201:=by
 have h1:(aw p).length<=((0,0) :: aV 1 (p.map led)).length:=List.length_filter_le _ _
 have h2:=ic (p.map led) 1 fun r hr=>by
  obtain ⟨s,hs,rfl⟩:=List.mem_map.mp hr
  have:=iX (r:=s)
  have:=fH s hs
  omega
 rw [List.length_cons] at h1
 rw [List.length_map] at h2
 omega
def Kn (p:List (List Int)) (c:Int×Int):Prop:=c∈aw p \/ jd p c=true
theorem zP {p:List (List Int)} {c:Int×Int} (h:qA p c):Kn p c:=by
 cases q:jd p c with
 | true=>exact .inr q
 | false=>exact .inl (iD.mpr ⟨h,q⟩)
theorem tU {p:List (List Int)} (hl:p.length<=24) (fH:∀ r∈p,r.length<=25) (cs:List (Int×Int)):
  fj (cW [bc p,.list (cs.map dC)]) fun d=>∃ kds,d=.dict kds /\ rg kds=false /\ Hs kds (Kn p) fun c=>tx (An p (fun c=>decide (c∈cs)) c):=by
 rw [tq]
 generalize hT:(fun c:Int×Int=>decide (c∈cs))=T
 have OD:=rP hl fH
 have mG:=mw p 0 fH
 refine bb [some (bc p),some (.list (cs.map dC)),some (.dict []),none,none,none] rfl ?_
 refine g4 dC (aw p) (fun i δ=>∃ kds a b e,δ=[some (bc p),some (.list (cs.map dC)),some (.dict kds),a,b,e] /\ rg kds=false /\ kds.length<=i /\ Hs kds (fun c=>c∈(aw p).take i) fun c=>tx (An p T c)) ?_ ⟨[],none,none,none,rfl,rfl,Nat.le_refl _,fun c hc=>by simp at hc⟩ ?_ ?_
 ·exact ie (aI (bO (cons_of rfl rfl) rfl (tL hl fH)))
 ·rintro i c δ hi ⟨kds,a,b,e,rfl,hf,Nv,hh⟩
  have C7:=(List.getElem?_eq_some_iff.mp hi).1
  have VB:=iD.mp (List.mem_of_getElem? hi)
  refine ⟨_,[some (bc p),some (.list (cs.map dC)),some (.dict (eZ kds (kC c) (tx (An p T c)))),some (dC c),b,e],rfl,my (c:=c) rfl rfl ?_ (by omega),_,_,_,_,rfl,tK hf,?_,hh.put c fun x hx=>?_⟩
  ·refine En (decide (c∈cs)) (bA (au rfl rfl ((pR false c cs).trans (by rw [Bool.bne_false])))) (fun h=>?_) fun h=>?_
   ·have h:T c=true:=by rw [<- hT]; exact h
    rw [pU VB.2]; unfold k9; rw [h]; rfl
   ·have h:T c=false:=by rw [<- hT]; exact h
    rw [pU VB.2]; unfold k9; rw [h]; rfl
  ·have:=jq kds (kC c) (tx (An p T c))
   omega
  ·rw [tR hi,List.mem_append,List.mem_singleton] at hx
   exact hx
 ·rintro δ' ⟨kds,a,b,e,rfl,hf,Nv,hh⟩
  rw [List.take_length] at hh
  have hR:((aV 0 p).reverse).Pairwise fun a c:Int×Int=>c.1 + c.2<=a.1 + a.2:=List.pairwise_reverse.mpr zO
  have hRl:((aV 0 p).reverse).length=(aV 0 p).length:=List.length_reverse
  refine g4 dC ((aV 0 p).reverse) (fun i δ=>∃ kds a b e,δ=[some (bc p),some (.list (cs.map dC)),some (.dict kds),a,b,e] /\ rg kds=false /\ kds.length<=1201 + i /\ Hs kds (fun c=>c∈aw p \/ c∈(aV 0 p).reverse.take i) fun c=>tx (An p T c)) ?_ ⟨kds,a,b,e,rfl,hf,by omega,fun c hc=>hh c (hc.elim id fun z=>by simp at z)⟩ ?_ ?_
  ·unfold m9
   have ed:ax (bj cq 1 (aa (ae 0) ah)) [some (bc p),some (.list (cs.map dC)),some (.dict kds),a,b,e]=some (.list ((aV 0 p).map dC)):=aI (bO (cons_of rfl rfl) rfl (pQ hl fH))
   rw [ed,List.map_reverse]
   rfl
  ·rintro i c δ hi ⟨kds,a,b,e,rfl,hf,Nv,hh⟩
   have C7:=(List.getElem?_eq_some_iff.mp hi).1
   have KQ:jd p c=true:=jT.mp (List.mem_reverse.mp (List.mem_of_getElem? hi))
   have kn:∀ x:Int×Int,qA p x->c.1 + c.2 < x.1 + x.2->bz kds (kC x)=some (tx (An p T x)):=fun x hx j4=>by
    refine hh x ?_
    rcases zP hx with h | h
    ·exact .inl h
    ·exact .inr (G1 hR hi (List.mem_reverse.mpr (jT.mpr h)) j4)
   have e1:=kn (c.1 + 1,c.2) (KL KQ) (by show c.1 + c.2 < c.1 + 1 + c.2; omega)
   have e2:=kn (c.1,c.2 + 1) (KN KQ) (by show c.1 + c.2 < c.1 + (c.2 + 1); omega)
   have v1:gR (ae 2) (bQ g7 2 (aa (ae 4) (aa (gC (.str "b")) ah))) [some (bc p),some (.list (cs.map dC)),some (.dict kds),a,some (dC c),e]=some (tx (An p T (c.1 + 1,c.2))):=
    (kT (c:=(c.1 + 1,c.2)) rfl (call_of (cons_of rfl (cons_of rfl rfl)) rfl (A8 c)) hf).trans e1
   have v2:gR (ae 2) (bQ g7 2 (aa (ae 4) (aa (gC (.str "g")) ah))) [some (bc p),some (.list (cs.map dC)),some (.dict kds),a,some (dC c),some (tx (An p T (c.1 + 1,c.2)))]=some (tx (An p T (c.1,c.2 + 1))):=
    (kT (c:=(c.1,c.2 + 1)) rfl (call_of (cons_of rfl (cons_of rfl rfl)) rfl (A9 c)) hf).trans e2
   refine ⟨_,[some (bc p),some (.list (cs.map dC)),some (.dict (eZ kds (kC c) (tx (An p T c)))),a,some (dC c),some (tx (An p T (c.1 + 1,c.2)))],rfl,bK _ (aS v1) (my (c:=c) rfl rfl ?_ (by omega)),_,_,_,_,rfl,tK hf,?_,hh.put c fun x hx=>?_⟩
   ·have hx:=g9 (p:=p) (T:=T) (c.1 + 1,c.2)
    have hy:=g9 (p:=p) (T:=T) (c.1,c.2 + 1)
    refine En (decide (An p T (c.1 + 1,c.2)=An p T (c.1,c.2 + 1))) (bA (au rfl v2 (yu hx hy))) (fun h=>?_) fun h=>?_
    ·rw [decide_eq_true_eq] at h
     rw [Ek KQ,<- h,or_self]
     rfl
    ·rw [decide_eq_false_iff_not] at h
     rw [Ek KQ,Nw hx hy h]
     rfl
   ·have:=jq kds (kC c) (tx (An p T c))
    omega
   ·rw [tR hi,List.mem_append,List.mem_singleton] at hx
    rcases hx with h | h | h
    ·exact .inl (.inl h)
    ·exact .inl (.inr h)
    ·exact .inr h
  ·rintro δ' ⟨kds,a,b,e,rfl,hf,Nv,hh⟩
   rw [List.take_length] at hh
   refine ret (.dict kds) rfl (.mk rfl ⟨kds,rfl,hf,fun c hc=>hh c ?_⟩)
   exact hc.imp id fun h=>List.mem_reverse.mpr (jT.mpr h)
theorem tV {a:DS->Option Res} {b:DS->Option (D×List D)} {δ:DS} {r:Option (D×List D)} (δ':DS) (h:a δ=some (.nx δ')) (k:b δ'=r):rL a b δ=r:=by
 unfold rL; rw [h]; exact k
theorem Ny {g:DS->Option D} {δ:DS} {d:D} (h:g δ=some d):zi g δ=some (.nx δ):=by unfold zi; rw [h]; rfl
theorem Nz (a c:Int×Int):jD (dC a) (dC c)=some (.bool (decide (a=c))):=by
 show (if (SeqAt.shaped (dC a) && SeqAt.shaped (dC c))=true then some (PyData.bool (PyData.eqv (dC a) (dC c))) else none)=_
 rw [zL,zL,Ef]
 rfl
theorem KR {a b:DS->Option Bool} {δ:DS} {x y:Bool} (h1:a δ=some x) (h2:b δ=some y):wL a b δ=some (x || y):=by
 unfold wL
 rw [h1,Option.bind_some]
 cases x with
 | true=>rfl
 | false=>exact h2
theorem vN {p:List (List Int)} (hp:Pl p) (hl:p.length<=24) (fH:∀ r∈p,r.length<=25) {cs:List (Int×Int)} (VC:∀ c∈cs,c∈aw p):
  gD [bc p,.list (cs.map dC)]=some (bc (eC p fun c=>decide (c∈cs)),(iZ p fun c=>decide (c∈cs)).map dC):=by
 rw [vA]
 obtain ⟨_,ea,kds,rfl,hf,hh⟩:=tU hl fH cs
 generalize hT:(fun c:Int×Int=>decide (c∈cs))=T at hh ⊢
 have mG:=mw p 0 fH
 have S:=pV (T:=T) hp hl
 have OD:=rP S.Lx S.Ly
 refine tV [some (bc p),some (.list (cs.map dC)),none,none] (Ny (call_of (cons_of rfl (cons_of rfl rfl)) rfl (tM hl fH cs VC))) ?_
 refine tV [some (bc p),some (.list (cs.map dC)),some (.dict kds),none] (aS (call_of (cons_of rfl (cons_of rfl rfl)) rfl ea)) ?_
 have hw:ba (aQ (ax (bj cq 1 (aa (ae 0) ah)))) 1 [2] (aD 0) (wL (gB (g2 jD (ae 0) (bB (aa (gC (.int (0))) (aa (gC (.int (0))) ah))))) (gB (g2 jD (gR (ae 1) (ae 0)) (gC (.str "not settled"))))) (ae 0) [some (bc p),some (.list (cs.map dC)),some (.dict kds),none]=some ((wants p T).map dC):=by
  refine (jv dC dC (fun x=>x) (fun c=>decide (c=(0,0)) || decide (An p T c=(true,true))) (aV 0 p) (ie (aI (bO (cons_of rfl rfl) rfl (pQ hl fH)))) (by omega) (fun c hc=>?_) fun c _ _=>rfl).trans (by rw [List.map_id']; rfl)
  have hk:bz kds (kC c)=some (tx (An p T c)):=hh c (.inr (jT.mp hc))
  exact KR (bA (au rfl rfl (Nz c (0,0)))) (bA (au ((kT (c:=c) rfl rfl hf).trans hk) rfl (yu (y:=(true,true)) (g9 c) (.inl rfl))))
 have NY:(wants p T).length<=(aV 0 p).length:=List.length_filter_le _ _
 refine tV [some (bc p),some (.list (cs.map dC)),some (.dict kds),some (bc (eC p T))] (aS (call_of (cons_of (aI hw) rfl) rfl (vM (d6.mpr ⟨Nu hp,.inl rfl⟩) (fun c hc=>?_) (by omega)))) ?_
 ·have:=pT (d6.mp hc).1
  omega
 ·have ht:ba (aQ (ax (bj eP 1 (aa (ae 3) ah)))) 1 [2] (aD 0) (gB (g2 jD (gR (ae 1) (ae 0)) (gC (.str "refused")))) (ae 0) [some (bc p),some (.list (cs.map dC)),some (.dict kds),some (bc (eC p T))]=some ((iZ p T).map dC):=by
   refine (jv dC dC (fun x=>x) (fun c=>decide (An p T c=(true,false))) (aw (eC p T)) (ie (aI (bO (cons_of rfl rfl) rfl (tL S.Lx S.Ly)))) (by omega) (fun c hc=>?_) fun c _ _=>rfl).trans (by rw [List.map_id']; rfl)
   have hk:bz kds (kC c)=some (tx (An p T c)):=hh c (zP (El hp hl (iD.mp hc).1))
   exact bA (au ((kT (c:=c) rfl rfl hf).trans hk) rfl (yu (y:=(true,false)) (g9 c) (.inl rfl)))
  unfold DA
  rw [ht]
  rfl
theorem Eo {g:DS->Option (List D)} {δ:DS} {xs:List D} (h:g δ=some xs) (hl:xs.length<=100000):bw g δ=some xs:=by
 unfold bw
 rw [h,Option.bind_some,if_pos hl]
theorem yw (c:Int):∃ i:Int,fU [.int c]=some (.int i):=by
 have Oz:oP (.int 10) (.int 18)=some (.int (10 ^ 18)):=Io (k:=18) (by decide) (by decide)
 have main:fj (fU [.int c]) fun d=>∃ i:Int,d=.int i:=by
  rw [yi]
  have hc:gB (iw Aj Aj (g1 Ak (g2 oP (gC (.int (10))) (gC (.int (18))))) (ae 0) (g2 oP (gC (.int (10))) (gC (.int (18))))) [some (.int c),none]=some (decide (-(10 ^ 18:Int) < c) && decide (c < (10 ^ 18:Int))):=by
   refine bA (zJ (x:=.int (-(10 ^ 18))) (w:=.int (10 ^ 18)) ?_ rfl rfl (au rfl rfl Oz) rfl)
   unfold g1
   rw [au (f:=oP) rfl rfl Oz]
   rfl
  refine sX (!(decide (-(10 ^ 18:Int) < c) && decide (c < (10 ^ 18:Int)))) (eJ hc) (fun _=>?_) fun _=>?_
  ·exact sY (.int (c / 2)) (au rfl rfl (dd 2 (by decide) (by decide))) (.mk rfl ⟨_,rfl⟩)
  ·rw [DZ]
   obtain ⟨_,e,l,rfl,hl,hb⟩:=nX c 1000003 4 (by decide) (by decide)
   refine bb [some (.int c),some (.list (l.map .int))] (aS (aI (bO (cons_of rfl (cons_of rfl (cons_of rfl rfl))) rfl e))) ?_
   have gt:∀ k:Nat,k < 4->∃ x:Int,0<=x /\ x < 1000003 /\ g2 eX (ae 1) (gC (.int (k:Nat))) [some (.int c),some (.list (l.map .int))]=some (.int x):=fun k hk=>by
    obtain ⟨x,hx,ex⟩:=tF (l:=l) (i:=(k:Int)) (by omega) (by omega)
    exact ⟨x,(hb x hx).1,(hb x hx).2,au rfl rfl ex⟩
   obtain ⟨x0,a0,b0,e0⟩:=gt 0 (by decide)
   obtain ⟨x1,a1,b1,e1⟩:=gt 1 (by decide)
   obtain ⟨x2,a2,b2,e2⟩:=gt 2 (by decide)
   obtain ⟨x3,a3,b3,e3⟩:=gt 3 (by decide)
   have ml:∀ {y:Int},0<=y->y < 1000003 * 1000003 * 1000003->gv (.int 1000003) (.int y)=some (.int (1000003 * y)):=fun {y} h1 h2=>mo (DW (m:=20) (n:=60) (jt (by decide)) (jt (by omega)))
   refine ret (.int (x0 + 1000003 * (x1 + 1000003 * (x2 + 1000003 * x3)))) (au e0 (au rfl (au e1 (au rfl (au e2 (au rfl e3 (ml a3 (by omega))) rfl) (ml (by omega) (by omega))) rfl) (ml (by omega) (by omega))) rfl) (.mk rfl ⟨_,rfl⟩)
 obtain ⟨_,e,i,rfl⟩:=main
 exact ⟨i,e⟩
theorem Ep {α:Type} (enc:α->D) {f:D->Option (Option D)} (hf:∀ (k:Nat) (x:α),∃ b:Bool,f (.tuple [.int (k:Nat),enc x])=some (if b=true then some (enc x) else none)) (l:List α):∀ n:Nat,∃ m:List α,nj f (((l.map enc).zipIdx n).map fun p=>.tuple [.int (p.2:Nat),p.1])=some (m.map enc) /\ m.Sublist l:=by
 induction l with
 | nil=>exact fun n=>⟨[],rfl,.slnil⟩
 | cons x l ih=>
   intro n
   obtain ⟨m,e,hs⟩:=ih (n + 1)
   obtain ⟨b,hb⟩:=hf n x
   rw [List.map_cons,List.zipIdx_cons,List.map_cons,nj,hb,Option.bind_some,e,Option.bind_some]
   cases b with
   | true=>exact ⟨x :: m,rfl,hs.cons₂ x⟩
   | false=>exact ⟨m,rfl,hs.cons x⟩
theorem vO (es:List (Int×Int)) (c:Int) (hl:es.length<=1201):∃ rs:List (Int×Int),fT [.list (es.map dC),.int c]=some (.list (rs.map dC)) /\ (∀ x∈rs,x∈es) /\ rs.length<=2402:=by
 have main:fj (fT [.list (es.map dC),.int c]) fun d=>∃ rs:List (Int×Int),d=.list (rs.map dC) /\ (∀ x∈rs,x∈es) /\ rs.length<=2402:=by
  rw [yh]
  have comp:∃ r1:List (Int×Int),ba (eO (ae 0)) 2 [1] (iu 2 (bY (aD 0) (bY (aD 1) iQ))) (gB (g2 jD (g2 Gs (g2 FW (g2 mY (ae 2) (gC (.int (12)))) (ae 0)) (gC (.int (1)))) (gC (.int (1))))) (ae 1) [some (.list (es.map dC)),some (.int c),none]=some (r1.map dC) /\ r1.Sublist es:=by
   obtain ⟨f,ef⟩:∃ f:D->Option (Option D),f=fun d=>(iu 2 (bY (aD 0) (bY (aD 1) iQ)) d (List.replicate 2 none ++ gy [1] [some (.list (es.map dC)),some (.int c),none])).bind fun gL=>
     (gB (g2 jD (g2 Gs (g2 FW (g2 mY (ae 2) (gC (.int (12)))) (ae 0)) (gC (.int (1)))) (gC (.int (1)))) gL).bind fun b=>if b=true then (ae 1 gL).map some else some none:=⟨_,rfl⟩
   have hf:∀ (k:Nat) (x:Int×Int),∃ b:Bool,f (.tuple [.int (k:Nat),dC x])=some (if b=true then some (dC x) else none):=by
    intro k x
    refine ⟨decide (Builtin.bitAnd (c / 12 / 2 ^ (k:Int).toNat) 1=1),?_⟩
    rw [ef]
    show (Option.bind (some [some (PyData.int (k:Nat)),some (dC x),some (.int c)]) _)=_
    rw [Option.bind_some]
    have hb:gB (g2 jD (g2 Gs (g2 FW (g2 mY (ae 2) (gC (.int (12)))) (ae 0)) (gC (.int (1)))) (gC (.int (1)))) [some (PyData.int (k:Nat)),some (dC x),some (.int c)]=some (decide (Builtin.bitAnd (c / 12 / 2 ^ (k:Int).toNat) 1=1)):=
     bA (au (au (au (au rfl rfl (dd 12 (by decide) (by decide))) rfl (oO (C:=fun _ j=>0<=j) (by omega))) rfl rfl) rfl rfl)
    rw [hb,Option.bind_some]
    cases decide (Builtin.bitAnd (c / 12 / 2 ^ (k:Int).toNat) 1=1) <;> rfl
   obtain ⟨m1,KG,wM⟩:=Ep dC hf es 0
   refine ⟨m1,?_,wM⟩
   unfold ba
   rw [show eO (ae 0) [some (.list (es.map dC)),some (.int c),none]=some (iy (es.map dC)) from rfl,Option.bind_some,if_pos (by rw [kO,List.length_map]; omega)]
   rw [ef] at KG
   exact KG
  obtain ⟨r1,OB,wM⟩:=comp
  refine bb [some (.list (es.map dC)),some (.int c),some (.list (r1.map dC))] (aS (aI OB)) ?_
  have NA:∀ z:Option D,g2 eu (ae 1) (gC (.int (12))) [some (.list (es.map dC)),some (.int c),z]=some (.int (c % 12)):=fun z=>au rfl rfl (gS (by decide))
  have s2:∃ r2:List (Int×Int),iI (gB (g2 jD (g2 eu (ae 1) (gC (.int (12)))) (gC (.int (1))))) (a9 2 (ax (lq fA (aa (ae 0) ah)))) bC [some (.list (es.map dC)),some (.int c),some (.list (r1.map dC))]=some (.nx [some (.list (es.map dC)),some (.int c),some (.list (r2.map dC))]) /\ (∀ x∈r2,x∈es) /\ r2.length<=1201:=by
   by_cases h:c % 12=1
   ·exact ⟨es,iW true (bA (au (NA _) rfl (by rw [kq,decide_eq_true h]))) (fun _=>rfl) (fun z=>nomatch z),fun x hx=>hx,hl⟩
   ·exact ⟨r1,ju (bA (au (NA _) rfl (by rw [kq,decide_eq_false h]))),fun x hx=>wM.subset hx,Nat.le_trans wM.length_le hl⟩
  obtain ⟨r2,QS,F8,xf⟩:=s2
  refine bb _ QS ?_
  have s3:∃ r3:List (Int×Int),iI (gB (g2 jD (g2 eu (ae 1) (gC (.int (12)))) (gC (.int (2))))) (a9 2 (ax (bw ah))) bC [some (.list (es.map dC)),some (.int c),some (.list (r2.map dC))]=some (.nx [some (.list (es.map dC)),some (.int c),some (.list (r3.map dC))]) /\ (∀ x∈r3,x∈es) /\ r3.length<=1201:=by
   by_cases h:c % 12=2
   ·exact ⟨[],iW true (bA (au (NA _) rfl (by rw [kq,decide_eq_true h]))) (fun _=>rfl) (fun z=>nomatch z),fun x hx=>by simp at hx,by simp⟩
   ·exact ⟨r2,ju (bA (au (NA _) rfl (by rw [kq,decide_eq_false h]))),F8,xf⟩
  obtain ⟨r3,XS,QW,hl3⟩:=s3
  refine bb _ XS ?_
  have s4:∃ r4:List (Int×Int),iI (gB (g2 Bp (g2 eu (ae 1) (gC (.int (12)))) (bB (aa (gC (.int (3))) (aa (gC (.int (4))) ah))))) (a9 2 (ax (kM eB (ax (pA (ae 2))) (ax (m7 (ae 2) gX (fB (gC (.int (1))))))))) bC [some (.list (es.map dC)),some (.int c),some (.list (r3.map dC))]=some (.nx [some (.list (es.map dC)),some (.int c),some (.list (r4.map dC))]) /\ (∀ x∈r4,x∈es) /\ r4.length<=2402:=by
   have HW:gB (g2 Bp (g2 eu (ae 1) (gC (.int (12)))) (bB (aa (gC (.int (3))) (aa (gC (.int (4))) ah)))) [some (.list (es.map dC)),some (.int c),some (.list (r3.map dC))]=some (decide (c % 12∈([3,4]:List Int))):=bA (au (NA _) rfl (tH (T:=[3,4])))
   by_cases h:c % 12∈([3,4]:List Int)
   ·obtain ⟨m,em,hml,XT⟩:=pI dC r3 none (some 1)
    refine ⟨r3.reverse ++ m,iW true (by rw [HW,decide_eq_true h]) (fun _=>?_) (fun z=>nomatch z),fun x hx=>?_,by rw [List.length_append,List.length_reverse]; omega⟩
    ·refine (aS (aI (i7 (x:=r3.reverse.map dC) (y:=m.map dC) ?_ (aI ?_) ?_))).trans ?_
     ·rw [List.map_reverse]; rfl
     ·show some (cutD (r3.map dC) none (some 1))=_
      rw [em]
     ·rw [List.length_map,List.length_map,List.length_reverse]; omega
     ·rw [List.map_append]; rfl
    ·rcases List.mem_append.mp hx with z | z
     ·exact QW x (List.mem_reverse.mp z)
     ·exact QW x (XT x z)
   ·exact ⟨r3,ju (by rw [HW,decide_eq_false h]),QW,by omega⟩
  obtain ⟨r4,XU,XW,XX⟩:=s4
  refine bb _ XU ?_
  exact ret (.list (r4.map dC)) rfl (.mk rfl ⟨r4,rfl,XW,XX⟩)
 obtain ⟨_,e,rs,rfl,h,h2⟩:=main
 exact ⟨rs,e,h,h2⟩
def tp (n k:Nat):Int:=(-1) ^ k * (GJ.ch n k:Int)
theorem mm (n:Nat):tp n 0=1:=by unfold tp; rw [GJ.zA]; rfl
theorem yx (n k:Nat):tp (n + 1) (k + 1)=tp n (k + 1) - tp n k:=by
 unfold tp
 rw [show GJ.ch (n + 1) (k + 1)=GJ.ch n k + GJ.ch n (k + 1) from rfl,Int.pow_succ]
 push_cast
 grind
theorem KS (n:Nat):tp n (n + 1)=0:=by unfold tp; rw [GJ.vt n (n + 1) (by omega)]; simp
def gH (n:Nat):List Int:=(List.range (n + 1)).map (tp n)
theorem dA (n:Nat):(gH n).length=n + 1:=by simp [gH]
theorem tW:∀ (n k:Nat),(tp n k).natAbs<=2 ^ n
 | n,0=>by rw [mm]; exact Nat.one_le_two_pow
 | 0,k + 1=>by unfold tp; rw [GJ.vt 0 (k + 1) (by omega)]; simp
 | n + 1,k + 1=>by
   have h1:=tW n (k + 1)
   have h2:=tW n k
   rw [yx,Nat.pow_succ]
   omega
def tX (b g:Nat):List Int:=List.replicate b 0 ++ gH g
theorem vP (b g:Nat):(tX b g).length=b + g + 1:=by unfold tX; rw [List.length_append,List.length_replicate,dA]; omega
theorem G4 {b g:Nat} {t:Int} (h:t∈tX b g):bt t<=g + 1:=by
 unfold tX gH at h
 rcases List.mem_append.mp h with z | z
 ·rw [(List.mem_replicate.mp z).2]; exact jt (show (0:Int).natAbs < 2 ^ (g + 1) from Nat.two_pow_pos _)
 ·obtain ⟨k,_,rfl⟩:=List.mem_map.mp z
  exact jt (Nat.lt_of_le_of_lt (tW g k) (Nat.pow_lt_pow_right (by decide) (by omega)))
theorem Be (n:Nat):((gH n ++ [0]).zip ([0] ++ gH n)).map (fun c:Int×Int=>c.1 - c.2)=gH (n + 1):=by
 apply List.ext_getElem
 ·simp [dA]
 ·intro j h1 h2
  rw [List.length_map,List.length_zip] at h1
  simp only [List.length_append,dA,List.length_cons,List.length_nil] at h1
  rw [List.getElem_map,List.getElem_zip]
  have e1:(gH n ++ [0])[j]'(by simp [dA]; omega)=tp n j:=by
   by_cases q:j < n + 1
   ·rw [List.getElem_append_left (by rw [dA]; exact q)]; simp [gH]
   ·have:j=n + 1:=by omega
    subst this
    rw [List.getElem_append_right (by rw [dA]; omega),KS]
    simp [dA]
  have e2:(gH (n + 1))[j]=tp (n + 1) j:=by simp [gH]
  simp only [e1,e2]
  cases j with
  | zero=>simp [mm]
  | succ j=>
    rw [yx]
    congr 1
    simp [gH]
theorem KU (xs ys:List Int):AK (xs.map .int) (ys.map .int)=(xs.zip ys).map dC:=by
 unfold AK
 rw [List.zip,List.zipWith_map,List.map_zipWith]
 rfl
theorem vQ (b g:Nat) (hb:b<=100) (hg:g<=100):gE [.int (b:Nat),.int (g:Nat)]=some ((List.replicate b 0 ++ gH g).map .int):=by
 rw [vC]
 refine b9 ?_
 refine bb [some (.int (b:Nat)),some (.int (g:Nat)),some (.list ([1].map .int)),none] rfl ?_
 refine ko 0 g (fun i δ=>∃ x,δ=[some (.int (b:Nat)),some (.int (g:Nat)),some (.list ((gH i).map .int)),x]) (h8 rfl (by omega)) ⟨none,rfl⟩ ?_ ?_
 ·rintro i δ hi ⟨x,rfl⟩
  refine ⟨_,[some (.int (b:Nat)),some (.int (g:Nat)),some (.list ((gH (i + 1)).map .int)),some (.int (0 + (i:Int)))],rfl,aS (aI ?_),_,rfl⟩
  have hz:Gg (ax (kM eB (ae 2) (ax (bw (aa (gC (.int (0))) ah))))) (ax (kM eB (ax (bw (aa (gC (.int (0))) ah))) (ae 2))) [some (.int (b:Nat)),some (.int (g:Nat)),some (.list ((gH i).map .int)),some (.int (0 + (i:Int)))]=some (((gH i ++ [0]).zip ([0] ++ gH i)).map dC):=by
   have c1:ax (kM eB (ae 2) (ax (bw (aa (gC (.int (0))) ah)))) [some (.int (b:Nat)),some (.int (g:Nat)),some (.list ((gH i).map .int)),some (.int (0 + (i:Int)))]=some (.list ((gH i ++ [0]).map .int)):=by
    rw [List.map_append]
    exact aI (i7 rfl rfl (by simp [dA]; omega))
   have c2:ax (kM eB (ax (bw (aa (gC (.int (0))) ah))) (ae 2)) [some (.int (b:Nat)),some (.int (g:Nat)),some (.list ((gH i).map .int)),some (.int (0 + (i:Int)))]=some (.list (([0] ++ gH i).map .int)):=by
    rw [List.map_append]
    exact aI (i7 rfl rfl (by simp [dA]; omega))
   unfold Gg
   rw [c1,c2]
   show some (AK _ _)=_
   rw [KU]
  show ba _ _ _ _ _ _ [some (.int (b:Nat)),some (.int (g:Nat)),some (.list ((gH i).map .int)),some (.int (0 + (i:Int)))]=_
  unfold ba
  rw [hz,Option.bind_some,if_pos (by simp [dA]; omega)]
  refine (yr dC PyData.int (fun c=>c.1 - c.2) (fun _=>true) _ fun c _=>rfl).trans ?_
  rw [List.filter_eq_self.mpr (fun _ _=>rfl),Be]
 ·rintro δ' ⟨x,rfl⟩
  have hc:dj (cT (aa (ae 0) ah)) [] (gC (.int (0))) [some (.int (b:Nat)),some (.int (g:Nat)),some (.list ((gH g).map .int)),x]=some ((List.replicate b (0:Int)).map .int):=by
   refine (g5 (fun k:Nat=>PyData.int (0 + k)) PyData.int (fun _=>0) (List.range b) (h8 rfl (by omega)) (by simp; omega) fun k _=>rfl).trans ?_
   rw [List.map_const',List.length_range]
  refine ret (.list ((List.replicate b 0 ++ gH g).map .int)) (aI ((i7 (aI hc) rfl (by simp [dA]; omega)).trans ?_)) (.mk rfl rfl)
  rw [List.map_append]
theorem KW {gi:DS->Option (List D)} {t:D->DS->Option DS} {b:DS->Option Res} {δ:DS} {ds:List D} {r:Option Res} (h1:gi δ=some ds) (h2:ki t b ds δ=r):eL gi t b δ=r:=by unfold eL; rw [h1]; exact h2
theorem NB {A:Int->Int} {r:List Int} (h:∀ x,0<=A x) (b:Int):0<=lv A r b:=by
 have h1:=h (b - 1)
 have h2:=h b
 unfold lv
 split <;> split <;> omega
theorem vR {p:List (List Int)} {A:Int->Int} (h:∀ x,0<=A x):∀ (k:Nat) (b:Int),0<=WW A p k b
 | 0,b=>by rw [WW_0]; exact h b
 | k + 1,b=>by rw [jS]; exact NB (vR h k) b
theorem zQ (x:Int):0<=A0 x:=by unfold A0; split <;> omega
theorem Er {A:Int->Int} {r:List Int} (h:∀ x,0<=A x) (hr:∀ x∈r,0 < A x) {b:Int} (hb:b∈led r):0 < lv A r b:=by
 have h1:=h (b - 1)
 have h2:=h b
 unfold lv
 rcases d3.mp hb with z | z
 ·have:=hr b z
  rw [if_pos z]; split <;> omega
 ·have:=hr _ z
  rw [if_pos z]; split <;> omega
theorem zR:∀ {q:List (List Int)} {r:List Int},D4 r q->∀ k x,x∈(r :: q).getD (k + 1) []->x∈led ((r :: q).getD k [])
 | [],_,_,k,x,hx=>by simp at hx
 | s :: q,r,hc,0,x,hx=>hc.1.2.2 x (by simpa using hx)
 | s :: q,r,hc,k + 1,x,hx=>by
   have:=zR hc.2 k x (by simpa using hx)
   simpa using this
theorem Es {p:List (List Int)} (h:Pl p) (k:Nat) (x:Int) (hx:x∈p.getD (k + 1) []):x∈led (p.getD k []):=by
 obtain ⟨q,rfl,hc⟩:=h.ex
 exact zR hc k x hx
theorem yy {p:List (List Int)} (h:Pl p):∀ (k:Nat) (x:Int),x∈p.getD k []->0 < WW A0 p k x
 | 0,x,hx=>by
   obtain ⟨q,rfl,hc⟩:=h.ex
   rw [WW_0]
   have:x=0:=by simpa using hx
   subst this; decide
 | k + 1,x,hx=>by
   rw [jS]
   exact Er (vR zQ k) (yy h k) (Es h k x hx)
theorem KY {p:List (List Int)} (h:Pl p) (k:Nat) (x:Int) (hx:x∈led (p.getD k [])):0 < WW A0 p (k + 1) x:=by
 rw [jS]
 exact Er (vR zQ k) (yy h k) hx
theorem zS {A:Int->Int} {p q:List (List Int)}:∀ (k:Nat),(∀ j,j < k->p.getD j []=q.getD j [])->WW A p k=WW A q k
 | 0,_=>by rw [WW_0,WW_0]
 | k + 1,h=>by
   funext b
   rw [jS,jS,h k (by omega),zS k fun j hj=>h j (by omega)]
theorem Dt.get {kds:List (D×D)} {F:WF} (h:Dt kds F) {b g:Int} (hp:F b g≠0):bz kds [.inl b,.inl g]=some (.int (F b g)):=by
 have:=h b g
 cases e:bz kds [.inl b,.inl g] with
 | none=>rw [e] at this; exact absurd (by injection this with z; exact z.symm) hp
 | some d=>rw [e] at this; rw [show d=.int (F b g) from this]
def iE (p:List (List Int)):WF:=(aV 0 p).foldl eh (nA (0,0))
theorem vS {p:List (List Int)} (h:Pl p) {x y:Int} {k:Nat} (e:x + y=(k:Int)):iE p x y=WW A0 p k x:=Eb h e
theorem Bf {p:List (List Int)} (h:Pl p) {n:Nat} {bs cs:List Int} (hr:p[n]?=some (bs ++ cs)) {x y:Int} (e:x + y=(n:Int)):(iM n bs).foldl eh ((aV 0 (p.take n)).foldl eh (nA (0,0))) x y=WW A0 p n x:=by
 have hn:=(List.getElem?_eq_some_iff.mp hr).1
 have hl:(p.take n).length=n:=by rw [List.length_take]; omega
 have e1:(iM n bs).foldl eh ((aV 0 (p.take n)).foldl eh (nA (0,0)))=(aV 0 (p.take n ++ [bs])).foldl eh (nA (0,0)):=by
  rw [ib,List.foldl_append,hl,Nat.zero_add]
 rw [e1]
 have nd:=(tJ h).1
 have XY:∀ s∈p.take n ++ [bs],s.Nodup:=by
  intro s hs
  rcases List.mem_append.mp hs with z | z
  ·exact nd s (List.mem_of_mem_take z)
  ·rw [List.mem_singleton.mp z]
   have:=nd _ (List.mem_of_getElem? hr)
   exact (List.nodup_append.mp this).1
 refine ((pP (p.take n ++ [bs]) 0 A0 (nA (0,0)) XY ?_ ?_ x y).2 n (by push_cast; omega)).trans ?_
 ·intro x y q
  unfold nA A0
  by_cases c:x=0
  ·rw [if_pos ⟨c,by push_cast at q; show y=0; omega⟩,if_pos c]
  ·rw [if_neg (fun z=>c z.1),if_neg c]
 ·intro x y q
  unfold nA
  rw [if_neg]
  rintro ⟨z1,z2⟩
  have XM:x=0:=z1
  have XN:y=0:=z2
  push_cast at q
  omega
 ·rw [zS (q:=p) n fun j hj=>?_]
  rw [List.getD_eq_getElem?_getD,List.getD_eq_getElem?_getD,List.getElem?_append_left (by omega),List.getElem?_take_of_lt hj]
theorem vT (p:List (List Int)):iy (p.map dR)=p.zipIdx.map fun x=>.tuple [.int (x.2:Nat),dR x.1]:=by
 unfold iy
 rw [List.zipIdx_map,List.map_map]
 rfl
theorem XZ {x y z n j:Nat} (l2:x<=y + 1) (l1:y<=z + 1) (h:z<=n + 2 * j):x<=n + 2 * (j + 1):=by omega
theorem X0 {z i j L r:Nat} (h:z<=1 + 50 * i + 2 * j) (hi:i < L) (hL:L<=24) (hj:j < r) (hr:r<=25):z + 1 < 100000:=by omega
theorem yz {p:List (List Int)} (hp:Pl p) (hl:p.length<=24) (fH:∀ r∈p,r.length<=25):∃ kds,fR [bc p]=some (.dict kds) /\ Dt kds (iE p):=by
 have main:fj (fR [bc p]) fun d=>∃ kds,d=.dict kds /\ Dt kds (iE p):=by
  rw [yf]
  refine bb [some (bc p),some (.dict [(dC (0,0),.int 1)]),none,none,none,none,none] rfl ?_
  refine g4 (fun x:List Int×Nat=>PyData.tuple [.int (x.2:Nat),dR x.1]) p.zipIdx (fun i δ=>∃ kds a b c d e,δ=[some (bc p),some (.dict kds),a,b,c,d,e] /\ Dt kds ((aV 0 (p.take i)).foldl eh (nA (0,0))) /\ kds.length<=1 + 50 * i) ?_ ⟨_,_,_,_,_,_,rfl,?_,by simp⟩ ?_ ?_
  ·show some (iy (p.map dR))=_
   rw [vT]
  ·refine ⟨rfl,fun b g=>?_⟩
   have:eZ [] [.inl 0,.inl 0] (.int 1)=[(dC (0,0),.int 1)]:=rfl
   rw [<- this]
   exact (Dt.put (kds:=[]) (F:=fun _ _=>0) ⟨rfl,fun b g=>rfl⟩ 0 0 1) b g
  ·rintro i ⟨r,n⟩ δ hi ⟨kds,a,b,c,d,e,rfl,hd,hlen⟩
   rw [List.getElem?_zipIdx] at hi
   cases er:p[i]? with
   | none=>rw [er] at hi; cases hi
   | some r'=>
   rw [er] at hi
   simp only [Option.map_some,Nat.zero_add,Option.some.injEq,Prod.mk.injEq] at hi
   obtain ⟨rfl,rfl⟩:=hi
   have C7:=(List.getElem?_eq_some_iff.mp er).1
   have Nq:=fH r' (List.mem_of_getElem? er)
   have ht:p.take (i + 1)=p.take i ++ [r']:=by rw [List.take_add_one,er]; rfl
   have GR:(p.take i).length=i:=by rw [List.length_take]; omega
   obtain ⟨G,hG⟩:∃ G,G=(aV 0 (p.take i)).foldl eh (nA (0,0)):=⟨_,rfl⟩
   rw [<- hG] at hd
   obtain ⟨δ',e2,NC,c2,d2,MK,rfl,hd2,Mv⟩:=oC (t:=aD 4)
    (b:=(aG (a9 5 (gR (ae 1) (bB (aa (ae 4) (aa (g2 gP (ae 2) (ae 4)) ah)))))
     (eL (aQ (bB (aa (bB (aa (g2 bo (ae 4) (gC (.int (1)))) (aa (g2 gP (ae 2) (ae 4)) ah))) (aa (bB (aa (ae 4) (aa (g2 bo (g2 gP (ae 2) (ae 4)) (gC (.int (1)))) ah))) ah)))) (aD 6)
      (nQ 1 (ae 6) (g2 bo (pw (ae 1) (ae 6) (gC (.int (0)))) (ae 5)))))) PyData.int
    (fun j δ=>∃ kds c d e,δ=[some (bc p),some (.dict kds),some (.int (i:Nat)),some (dR r'),c,d,e] /\ Dt kds ((iM i (r'.take j)).foldl eh G) /\ kds.length<=1 + 50 * i + 2 * j) r' (δ:=[some (bc p),some (.dict kds),some (.int (i:Nat)),some (dR r'),c,d,e]) ⟨kds,c,d,e,rfl,hd,by omega⟩ (by
     rintro j x δ hj ⟨kds,c,d,e,rfl,hd,hlen⟩
     have X1:=(List.getElem?_eq_some_iff.mp hj).1
     have X2:x∈r':=List.mem_of_getElem? hj
     obtain ⟨F,hF⟩:∃ F,F=(iM i (r'.take j)).foldl eh G:=⟨_,rfl⟩
     rw [<- hF] at hd
     obtain ⟨k,hk⟩:∃ k:Int×Int,k=(x,(i:Int) - x):=⟨_,rfl⟩
     have Et:(iM i (r'.take (j + 1))).foldl eh G=eh F k:=by
      rw [List.take_add_one,hj]
      unfold iM at hF ⊢
      rw [List.map_append,List.foldl_append,<- hF,hk]; rfl
     have F6:F k.1 k.2=WW A0 p i x:=by
      rw [hF,hG,hk]
      exact Bf hp (cs:=r'.drop j) (by rw [List.take_append_drop]; exact er) (by show x + ((i:Int) - x)=_; omega)
     have AU:F k.1 k.2≠0:=by
      have:=yy hp i x (by rw [List.getD_eq_getElem?_getD,er]; exact X2)
      omega
     have Vo:x=k.1:=by rw [hk]
     have QD:(i:Int) - x=k.2:=by rw [hk]
     obtain ⟨k1,FX⟩:∃ k1,k1=eZ kds [.inl (k.1 + 1),.inl k.2] (.int (F (k.1 + 1) k.2 + F k.1 k.2)):=⟨_,rfl⟩
     have Ln:=hd.put (k.1 + 1) k.2 (F (k.1 + 1) k.2 + F k.1 k.2)
     rw [<- FX] at Ln
     have hd2:=Ln.put k.1 (k.2 + 1) (F k.1 (k.2 + 1) + F k.1 k.2)
     have l1:k1.length<=kds.length + 1:=by rw [FX]; exact jq _ _ _
     have hz:=X0 hlen C7 hl X1 Nq
     have l2:=jq k1 [.inl k.1,.inl (k.2 + 1)] (.int (F k.1 (k.2 + 1) + F k.1 k.2))
     refine ⟨_,[some (bc p),some (.dict (eZ k1 [.inl k.1,.inl (k.2 + 1)] (.int (F k.1 (k.2 + 1) + F k.1 k.2)))),some (.int (i:Nat)),some (dR r'),some (.int x),some (.int (F k.1 k.2)),some (dC (k.1,k.2 + 1))],rfl,?_,_,_,_,_,rfl,?_,XZ l2 l1 hlen⟩
     ·refine bK [some (bc p),some (.dict kds),some (.int (i:Nat)),some (dR r'),some (.int x),some (.int (F k.1 k.2)),e] (aS ((kT (c:=k) rfl (by rw [hk]; rfl)).trans (hd.get AU))) ?_
      unfold eL
      have hit:aQ (bB (aa (bB (aa (g2 bo (ae 4) (gC (.int (1)))) (aa (g2 gP (ae 2) (ae 4)) ah))) (aa (bB (aa (ae 4) (aa (g2 bo (g2 gP (ae 2) (ae 4)) (gC (.int (1)))) ah))) ah))) [some (bc p),some (.dict kds),some (.int (i:Nat)),some (dR r'),some (.int x),some (.int (F k.1 k.2)),e]=some [dC (k.1 + 1,k.2),dC (k.1,k.2 + 1)]:=by
       show some [dC (x + 1,(i:Int) - x),dC (x,(i:Int) - x + 1)]=_
       rw [hk]
      rw [hit,Option.bind_some]
      refine QU [some (bc p),some (.dict kds),some (.int (i:Nat)),some (dR r'),some (.int x),some (.int (F k.1 k.2)),some (dC (k.1 + 1,k.2))] [some (bc p),some (.dict k1),some (.int (i:Nat)),some (dR r'),some (.int x),some (.int (F k.1 k.2)),some (dC (k.1 + 1,k.2))] [some (bc p),some (.dict k1),some (.int (i:Nat)),some (dR r'),some (.int x),some (.int (F k.1 k.2)),some (dC (k.1,k.2 + 1))] _ rfl ?_ rfl ?_
      ·refine (my (c:=(k.1 + 1,k.2)) rfl rfl (au ((vG (c:=(k.1 + 1,k.2)) rfl rfl rfl).trans (congrArg some (hd (k.1 + 1) k.2))) rfl rfl) (Nat.lt_of_succ_lt hz)).trans ?_
       rw [FX]; rfl
      ·have h5:(bz k1 [.inl k.1,.inl (k.2 + 1)]).getD (.int 0)=.int (F k.1 (k.2 + 1)):=by
        have:=Ln k.1 (k.2 + 1)
        rw [this]
        show PyData.int (if k.1=k.1 + 1 /\ k.2 + 1=k.2 then _ else _)=_
        rw [if_neg (by omega)]
       exact my (c:=(k.1,k.2 + 1)) rfl rfl (au ((vG (c:=(k.1,k.2 + 1)) rfl rfl rfl).trans (congrArg some h5)) rfl rfl) (Nat.lt_of_le_of_lt l1 hz)
     ·rw [Et]
      refine ⟨hd2.fn,fun x y=>?_⟩
      rw [hd2 x y]
      congr 1
      show (if x=k.1 /\ y=k.2 + 1 then _ else if x=k.1 + 1 /\ y=k.2 then _ else F x y)=F x y + _ + _
      by_cases c1:x=k.1 /\ y=k.2 + 1
      ·rw [if_pos c1,if_pos c1,if_neg (by omega),c1.1,c1.2]; omega
      ·rw [if_neg c1,if_neg c1]
       by_cases c2:x=k.1 + 1 /\ y=k.2
       ·rw [if_pos c2,if_pos c2,c2.1,c2.2]; omega
       ·rw [if_neg c2,if_neg c2]; omega)
   refine ⟨_,[some (bc p),some (.dict NC),some (.int (i:Nat)),some (dR r'),c2,d2,MK],rfl,?_,NC,_,_,_,_,_,rfl,?_,by omega⟩
   ·exact KW rfl e2
   ·rw [ht,ib,List.foldl_append,GR,Nat.zero_add,<- hG]
    rw [List.take_length] at hd2
    exact hd2
  ·rintro δ' ⟨kds,a,b,c,d,e,rfl,hd,_⟩
   rw [List.length_zipIdx,List.take_length] at hd
   exact ret (.dict kds) rfl (.mk rfl ⟨kds,rfl,hd⟩)
 obtain ⟨_,e,kds,rfl,hd⟩:=main
 exact ⟨kds,e,hd⟩
theorem vU {c:Int×Int}:∀ {q:List (List Int)} {n:Nat},c∈aV n q->∃ k,k < q.length /\ c.1∈q.getD k [] /\ c.1 + c.2=((n + k:Nat):Int)
 | [],n,h=>by simp [aV] at h
 | r :: q,n,h=>by
   rw [aV,List.mem_append] at h
   rcases h with h | h
   ·obtain ⟨b,hb,rfl⟩:=List.mem_map.mp h
    exact ⟨0,by simp,by simpa using hb,by show b + ((n:Int) - b)=_; omega⟩
   ·obtain ⟨k,h1,h2,h3⟩:=vU h
    exact ⟨k + 1,by simpa using h1,by simpa using h2,by rw [h3]; omega⟩
theorem Eu {p:List (List Int)}:∀ (k:Nat) (b:Int),WW A0 p k b<=2 ^ k
 | 0,b=>by rw [WW_0]; unfold A0; split <;> decide
 | k + 1,b=>by
   have h1:=Eu (p:=p) k (b - 1)
   have h2:=Eu (p:=p) k b
   have h3:=vR (p:=p) zQ k (b - 1)
   have h4:=vR (p:=p) zQ k b
   rw [jS,Int.pow_succ]
   unfold lv
   split <;> split <;> omega
structure Ew (p:List (List Int)) (c:Int×Int) (b g:Nat):Prop where
 eq:c=((b:Int),(g:Int))
 dr:b + g<=p.length
 d1:1<=b + g
 led:(b:Int)∈led (p.getD (b + g - 1) [])
 ww:iE p c.1 c.2=WW A0 p (b + g) b
 pos:0 < iE p c.1 c.2
 le:iE p c.1 c.2<=2 ^ (b + g)
theorem G5 {x y:Int} {k:Nat} (h:(0<=x /\ x<=(k:Int)) \/ (0<=x - 1 /\ x - 1<=(k:Int))) (e:x + y=((1 + k:Nat):Int)):∃ b g:Nat,x=(b:Int) /\ y=(g:Int) /\ b + g=k + 1 /\ x + y=((b + g:Nat):Int):=⟨x.toNat,y.toNat,by omega,by omega,by omega,by omega⟩
theorem KZ {p:List (List Int)} (hp:Pl p) {c:Int×Int} (h:c∈aV 1 (p.map led)):∃ b g:Nat,Ew p c b g:=by
 obtain ⟨k,h1,h2,h3⟩:=vU h
 rw [List.length_map] at h1
 have e:(p.map led).getD k []=led (p.getD k []):=by
  rw [List.getD_eq_getElem?_getD,List.getD_eq_getElem?_getD,List.getElem?_map,List.getElem?_eq_getElem h1]; rfl
 rw [e] at h2
 have hr:=(tJ hp).2 k
 obtain ⟨b,g,ET,Pk,hn,hs⟩:=G5 ((d3.mp h2).imp (hr _) (hr _)) h3
 have hw:iE p c.1 c.2=WW A0 p (b + g) b:=by rw [vS hp (k:=b + g) hs,ET]
 refine ⟨b,g,Prod.ext ET Pk,hn ▸ h1,hn ▸ Nat.succ_le_succ (Nat.zero_le k),?_,hw,?_,?_⟩
 ·rw [hn,Nat.add_sub_cancel,<- ET]; exact h2
 ·rw [hw,hn,<- ET]; exact KY hp k _ h2
 ·rw [hw]; exact Eu _ _
theorem K0 (p:List (List Int)) (n:Nat) (b:Int):jd p (b,(n:Int) - b)=decide (b∈p.getD n []):=by
 unfold jd
 simp only
 rw [show b + ((n:Int) - b)=(n:Int) by omega,Int.toNat_natCast,decide_eq_true (show (0:Int)<=(n:Int) by omega),Bool.true_and]
 rcases Nat.lt_or_ge n p.length with q | q
 ·rw [decide_eq_true (show (n:Int) < (p.length:Int) by omega),Bool.true_and]
 ·rw [decide_eq_false (show ¬ (n:Int) < (p.length:Int) by omega),Bool.false_and,List.getD_eq_getElem?_getD,List.getElem?_eq_none q]
  simp
theorem tY {p:List (List Int)} (hp:Pl p):aw p=(aV 1 (p.map led)).filter fun c=> !jd p c:=by
 obtain ⟨q,rfl,_⟩:=hp.ex
 unfold aw
 rw [List.filter_cons_of_neg]
 have:jd ([0] :: q) (0,0)=true:=by unfold jd; simp
 rw [this]; decide
theorem pW {p:List (List Int)} (hp:Pl p) {c:Int×Int} (h:c∈aw p):∃ b g:Nat,Ew p c b g:=by
 rw [tY hp] at h
 exact KZ hp (List.mem_filter.mp h).1
theorem pX {p:List (List Int)} (hl:p.length<=24) (fH:∀ r∈p,r.length<=25):(aw p).length<=1201:=by
 unfold aw
 refine Nat.le_trans (List.length_filter_le _ _) ?_
 have:=ic (p.map led) 1 (fun s hs=>by
  obtain ⟨t,ht,rfl⟩:=List.mem_map.mp hs
  have:=iX (r:=t)
  have:=fH t ht
  omega)
 rw [List.length_map] at this
 rw [List.length_cons]; omega
theorem kB {p:List (List Int)} (hp:Pl p) (hl:p.length<=24) (fH:∀ r∈p,r.length<=25):cu [bc p]=some ((aw p).map dC):=by
 rw [yt hl fH,tY hp]; rfl
theorem Ex {g:DS->Option D} {δ:DS} {l:List D} (h:g δ=some (.list l)):aQ g δ=some l:=by unfold aQ; rw [h]; rfl
theorem Ey {p:List (List Int)} (hl:p.length<=24) {c:Int×Int} {b g:Nat} (he:Ew p c b g):bt (iE p c.1 c.2)<=25:=by
 have h1:=he.pos
 have h2:=he.le
 have h3:=he.dr
 have:(2:Int) ^ (b + g)<=2 ^ 24:=by exact_mod_cast Nat.pow_le_pow_right (by decide) (by omega)
 exact jt (by omega)
theorem nZ:∀ l m:List Int,PyData.eqvAll (l.map .int) (m.map .int)=decide (l=m)
 | [],[]=>rfl
 | [],_ :: _=>rfl
 | _ :: _,[]=>rfl
 | a :: l,b :: m=>by
   rw [List.map_cons,List.map_cons,PyData.eqvAll,nZ l m,Bool.eq_iff_iff]
   simp [PyData.eqv]
theorem zT (l:List Int):SeqAt.shaped (.list (l.map .int))=true:=by
 obtain ⟨h1,h2⟩:=r6 (f:=PyData.int) (n:=3) (fun a=>⟨by simp [PyData.canLay0],by simp [PyData.depth]⟩) l
 unfold SeqAt.shaped
 rw [PyData.canLay0,PyData.depth,h1]
 simp
 omega
theorem G6 (a b:List Int):jD (.list (a.map .int)) (.list (b.map .int))=some (.bool (decide (a=b))):=by
 show (if (SeqAt.shaped (.list (a.map .int)) && SeqAt.shaped (.list (b.map .int)))=true then some (PyData.bool (PyData.eqv (.list (a.map .int)) (.list (b.map .int)))) else none)=_
 rw [zT,zT,PyData.eqv,nZ]; rfl
end aK
namespace aK
def sm {α:Type} (f:α->Int) (l:List α):Int:=(l.map f).sum
theorem yA {α:Type} (f:α->Int):sm f []=0:=rfl
theorem dn {α:Type} (f:α->Int) (a:α) (l:List α):sm f (a :: l)=f a + sm f l:=by unfold sm; rw [List.map_cons,List.sum_cons]
theorem yB {α:Type} (f:α->Int) (l m:List α):sm f (l ++ m)=sm f l + sm f m:=by unfold sm; rw [List.map_append,List.sum_append]
theorem yC {α β:Type} (f:β->Int) (g:α->β) (l:List α):sm f (l.map g)=sm (fun a=>f (g a)) l:=by unfold sm; rw [List.map_map]; rfl
theorem fE {α:Type} {f g:α->Int} {l:List α} (h:∀ a∈l,f a=g a):sm f l=sm g l:=by unfold sm; rw [List.map_congr_left h]
theorem pY {α:Type} (f g:α->Int):∀ l:List α,sm (fun a=>f a + g a) l=sm f l + sm g l
 | []=>rfl
 | a :: l=>by rw [dn,dn,dn,pY f g l]; omega
theorem G7 {α:Type} {f:α->Int} {l:List α} (h:∀ a∈l,f a=0):sm f l=0:=by
 induction l with
 | nil=>rfl
 | cons a l ih=>rw [dn,h a List.mem_cons_self,ih fun b hb=>h b (List.mem_cons_of_mem _ hb)]; rfl
theorem G8 {α:Type} {f:α->Int} {l m:List α} (h:l.Perm m):sm f l=sm f m:=by
 induction h with
 | nil=>rfl
 | cons a _ ih=>rw [dn,dn,ih]
 | swap a b l=>rw [dn,dn,dn,dn]; omega
 | trans _ _ i j=>rw [i,j]
theorem nF {α:Type} (f:α->Int) (P:α->Bool):∀ l:List α,sm f (l.filter P)=sm (fun a=>if P a=true then f a else 0) l
 | []=>rfl
 | a :: l=>by
   rw [List.filter_cons,dn,<- nF f P l]
   cases P a with
   | true=>rw [if_pos rfl,if_pos rfl,dn]
   | false=>rw [if_neg (by decide),if_neg (by decide)]; omega
theorem yD {f:Int->Int} {l s:List Int} (hl:l.Nodup) (hs:s.Nodup) (h:∀ x∈s,x∈l):sm (fun a=>if a∈s then f a else 0) l=sm f s:=by
 have pm:List.Perm (l.filter fun x=>decide (x∈s)) s:=(List.perm_ext_iff_of_nodup (hl.sublist List.filter_sublist) hs).mpr fun z=>by
  rw [List.mem_filter,decide_eq_true_eq]
  exact ⟨fun q=>q.2,fun q=>⟨h z q,q⟩⟩
 rw [<- G8 pm,nF]
 exact fE fun a _=>by simp
theorem ND {A:Int->Int} {r:List Int} (hr:mq r) (f:Int->Int):sm (fun b=>lv A r b * f b) (led r)=sm (fun b=>A b * (f (b + 1) + f b)) r:=by
 have nl:(led r).Nodup:=mx fP
 have nr:=mx hr
 have e1:sm (fun b=>if b∈r then A b * f b else 0) (led r)=sm (fun b=>A b * f b) r:=yD nl nr fun x hx=>d3.mpr (.inl hx)
 have e2:sm (fun b=>if b∈r.map (· + 1) then A (b - 1) * f b else 0) (led r)=sm (fun b=>A b * f (b + 1)) r:=by
  rw [yD (f:=fun b=>A (b - 1) * f b) nl (List.pairwise_map.mpr (nr.imp fun h e=>h (by omega))) (fun x hx=>by
   obtain ⟨y,hy,rfl⟩:=List.mem_map.mp hx
   exact d3.mpr (.inr (by rw [show y + 1 - 1=y by omega]; exact hy))),yC]
  exact fE fun a _=>by rw [show a + 1 - 1=a by omega]
 have e3:sm (fun b=>A b * (f (b + 1) + f b)) r=sm (fun b=>A b * f (b + 1)) r + sm (fun b=>A b * f b) r:=by
  rw [<- pY]
  exact fE fun a _=>by rw [Int.mul_add]
 rw [e3,<- e1,<- e2,<- pY]
 refine fE fun b _=>?_
 have m:b∈r.map (· + 1)↔b - 1∈r:=by
  rw [List.mem_map]
  exact ⟨fun ⟨y,hy,e⟩=>by rw [show b - 1=y by omega]; exact hy,fun h=>⟨b - 1,h,by omega⟩⟩
 unfold lv
 simp only [m]
 split <;> split <;> simp [Int.add_mul]
def Ez (φ:Int->Int->Int) (c:Int×Int):Int:=φ (c.1 + 1) c.2 + φ c.1 (c.2 + 1) - φ c.1 c.2
theorem vV {p:List (List Int)} (φ:Int->Int->Int):∀ (q:List (List Int)) (r:List Int) (n:Nat) (A:Int->Int) (W:Int->Int->Int),(∀ j,p.getD (n + j) []=(r :: q).getD j [])->D4 r q->mq r->
  (∀ (x y:Int) (j:Nat),x + y=(n:Int) + (j:Int)->W x y=WW A (r :: q) j x)->
  sm (fun c=>W c.1 c.2 * φ c.1 c.2) ((aV (n + 1) ((r :: q).map led)).filter fun c=> !jd p c)=sm (fun b=>A b * φ b ((n:Int) - b)) r + sm (fun c=>W c.1 c.2 * Ez φ c) (aV n (r :: q))
 | q,r,n,A,W,hg,hc,hr,hW=>by
   have nl:(led r).Nodup:=mx fP
   have e1:=hg 1
   have JT:sm (fun c=>W c.1 c.2 * φ c.1 c.2) ((iM (n + 1) (led r)).filter fun c=> !jd p c)=sm (fun b=>lv A r b * φ b ((n:Int) + 1 - b)) ((led r).filter fun b=> !decide (b∈p.getD (n + 1) [])):=by
    unfold iM
    rw [List.filter_map,yC]
    have ef:((fun c:Int×Int=> !jd p c) ∘ fun b:Int=>(b,((n + 1:Nat):Int) - b))=fun b=> !decide (b∈p.getD (n + 1) []):=by
     funext b
     show (!jd p (b,((n + 1:Nat):Int) - b))=_
     rw [K0]
    rw [ef]
    refine fE fun b _=>?_
    show W b (((n + 1:Nat):Int) - b) * φ b (((n + 1:Nat):Int) - b)=_
    rw [hW b (((n + 1:Nat):Int) - b) 1 (by push_cast; omega),show ((n + 1:Nat):Int) - b=(n:Int) + 1 - b by push_cast; rfl]
    show WW (lv A r) q 0 b * _=_
    rw [WW_0]
   have hlv:=ND hr (A:=A) (fun b=>φ b ((n:Int) + 1 - b))
   have sV:∀ s:List Int,s.Nodup->(∀ x∈s,x∈led r)->sm (fun b=>lv A r b * φ b ((n:Int) + 1 - b)) ((led r).filter fun b=> !decide (b∈s)) + sm (fun b=>lv A r b * φ b ((n:Int) + 1 - b)) s=sm (fun b=>lv A r b * φ b ((n:Int) + 1 - b)) (led r):=by
    intro s hs uV
    rw [nF,<- yD (f:=fun b=>lv A r b * φ b ((n:Int) + 1 - b)) nl hs uV,<- pY]
    refine fE fun b _=>?_
    by_cases q:b∈s
    ·simp [q]
    ·simp [q]
   have X3:sm (fun c=>W c.1 c.2 * Ez φ c) (iM n r) + sm (fun b=>A b * φ b ((n:Int) - b)) r=sm (fun b=>A b * (φ (b + 1) ((n:Int) + 1 - (b + 1)) + φ b ((n:Int) + 1 - b))) r:=by
    unfold iM
    rw [yC,<- pY]
    refine fE fun b _=>?_
    show W b ((n:Int) - b) * Ez φ (b,(n:Int) - b) + _=_
    rw [hW b ((n:Int) - b) 0 (by push_cast; omega),WW_0]
    unfold Ez
    show A b * (φ (b + 1) ((n:Int) - b) + φ b ((n:Int) - b + 1) - φ b ((n:Int) - b)) + _=_
    rw [show (n:Int) + 1 - (b + 1)=(n:Int) - b by omega,show (n:Int) + 1 - b=(n:Int) - b + 1 by omega,<- Int.mul_add]
    congr 1
    omega
   rw [List.map_cons,aV,List.filter_append,yB,JT,e1,aV,yB]
   cases q with
   | nil=>
     have:=sV [] (by simp) (by simp)
     simp only [List.map_nil,aV,List.filter_nil,yA]
     rw [yA] at this
     rw [show ([r]:List (List Int)).getD 1 []=[] from rfl]
     omega
   | cons s q=>
     have hs:=hc.1
     have h2:=sV s (mx hs.2.1) hs.2.2
     have ih:=vV (p:=p) φ q s (n + 1) (lv A r) W (fun j=>by rw [show n + 1 + j=n + (j + 1) by omega,hg (j + 1)]; rfl) hc.2 hs.2.1 (fun x y j h=>by
      rw [hW x y (j + 1) (by push_cast at h ⊢; omega)]; rfl)
     rw [show (r :: s :: q).getD 1 []=s from rfl,ih]
     rw [show sm (fun b=>lv A r b * φ b (((n + 1:Nat):Int) - b)) s=sm (fun b=>lv A r b * φ b ((n:Int) + 1 - b)) s from by push_cast; rfl]
     omega
theorem G9 {p:List (List Int)} (hp:Pl p) (φ:Int->Int->Int):sm (fun c=>iE p c.1 c.2 * φ c.1 c.2) (aw p)=φ 0 0 + sm (fun c=>iE p c.1 c.2 * Ez φ c) (aV 0 p):=by
 rw [tY hp]
 have hw:∀ (x y:Int) (j:Nat),x + y=((0:Nat):Int) + (j:Int)->iE p x y=WW A0 p j x:=fun x y j h=>vS hp (by omega)
 obtain ⟨q,rfl,hc⟩:=hp.ex
 have:=vV (p:=[0] :: q) φ q [0] 0 A0 (iE ([0] :: q)) (fun j=>by rw [Nat.zero_add]) hc (by unfold mq; simp) hw
 rw [this]
 congr 1
 simp [sm,A0]
theorem vW {p:List (List Int)} (hp:Pl p) {φ:Int->Int->Int} (h:∀ c∈aV 0 p,Ez φ c=0):sm (fun c=>iE p c.1 c.2 * φ c.1 c.2) (aw p)=φ 0 0:=by
 rw [G9 hp,G7 fun c hc=>by rw [h c hc,Int.mul_zero]]; omega
end aK
namespace aK
def co (b g k:Nat):Int:=if k < b then 0 else tp g (k - b)
theorem zU {n k:Nat} (h:n < k):tp n k=0:=by unfold tp; rw [GJ.vt n k h]; simp
theorem K2 (b g k:Nat):co (b + 1) g k + co b (g + 1) k=co b g k:=by
 unfold co
 by_cases h:k < b
 ·rw [if_pos (by omega),if_pos h,if_pos h]; rfl
 ·by_cases h2:k=b
  ·subst h2
   rw [if_pos (by omega),if_neg h,if_neg h,Nat.sub_self,mm,mm]; rfl
  ·obtain ⟨j,rfl⟩:∃ j,k=b + 1 + j:=⟨k - b - 1,by omega⟩
   rw [if_neg (by omega),if_neg h,if_neg h,show b + 1 + j - (b + 1)=j by omega,show b + 1 + j - b=j + 1 by omega,yx]
   omega
theorem pZ (b g k:Nat):(tX b g).getD k 0=co b g k:=by
 unfold tX co gH
 rw [List.getD_eq_getElem?_getD]
 by_cases h:k < b
 ·rw [List.getElem?_append_left (by rw [List.length_replicate]; exact h),List.getElem?_replicate,if_pos h,if_pos h]; rfl
 ·rw [List.getElem?_append_right (by rw [List.length_replicate]; omega),List.length_replicate,if_neg h,List.getElem?_map]
  by_cases h2:k - b < g + 1
  ·rw [List.getElem?_range h2]; rfl
  ·rw [List.getElem?_eq_none (by rw [List.length_range]; omega),zU (by omega)]; rfl
def Bv (k:Nat) (x y:Int):Int:=co x.toNat y.toNat k
theorem Ha (k:Nat) {c:Int×Int} (h1:0<=c.1) (h2:0<=c.2):Ez (Bv k) c=0:=by
 obtain ⟨b,hb⟩:∃ b:Nat,c.1=(b:Int):=⟨c.1.toNat,by omega⟩
 obtain ⟨g,hg⟩:∃ g:Nat,c.2=(g:Int):=⟨c.2.toNat,by omega⟩
 unfold Ez Bv
 rw [hb,hg,show ((b:Int) + 1).toNat=b + 1 by omega,show ((g:Int) + 1).toNat=g + 1 by omega,Int.toNat_natCast,Int.toNat_natCast]
 have:=K2 b g k
 omega
end aK
namespace aK
open PySem L2 Q1
theorem zV (l:List Int) {n k:Nat} (h1:l.length<=n) (hk:k < n):eX (.list (l.map .int ++ (List.replicate n (0:Int)).map .int)) (.int (k:Nat))=some (.int (l.getD k 0)):=by
 rw [Ip]
 refine iN ?_
 rw [<- List.map_append,List.getElem?_map]
 by_cases h:k < l.length
 ·rw [List.getElem?_append_left h,List.getD_eq_getElem?_getD,List.getElem?_eq_getElem h]; rfl
 ·rw [List.getElem?_append_right (by omega),List.getElem?_replicate,if_pos (by omega),List.getD_eq_getElem?_getD,List.getElem?_eq_none (by omega)]; rfl
theorem Bg {a b n:Nat} (h:n=max a b) (ha:a<=1000) (hb:b<=1000):a<=n /\ b<=n /\ n<=100000 /\ (∀ w:Nat,w<=n->w + n<=100000) /\ ∀ i:Nat,i < n->i < 100000:=⟨by omega,by omega,by omega,fun _ _=>by omega,fun _ _=>by omega⟩
theorem Hb (a b:Nat):(if (b:Int) > (a:Int) then (b:Int) else (a:Int))=((max a b:Nat):Int):=by split <;> omega
theorem n0 (l m:List Int) (f:Int) (hl:l.length<=1000) (hm:m.length<=1000) (hf:∀ k,IntMulOk f (m.getD k 0)):dz [.list (l.map .int),.list (m.map .int),.int f]=some ((tab (max l.length m.length) fun k=>l.getD k 0 + f * m.getD k 0).map .int):=by
 rw [vD]
 refine b9 ?_
 obtain ⟨n,hn⟩:∃ n,n=max l.length m.length:=⟨_,rfl⟩
 obtain ⟨nl,nm,n1,n2,n3⟩:=Bg hn hl hm
 rw [<- hn]
 refine bb [some (.list (l.map .int)),some (.list (m.map .int)),some (.int f),some (.int (n:Nat)),none,none] (aS (mr (cons_of (mr (cons_of rfl rfl) (sZ _)) (cons_of (mr (cons_of rfl rfl) (sZ _)) rfl)) ?_)) ?_
 ·rw [List.length_map,List.length_map]
  show some (PyData.int (if (m.length:Int) > (l.length:Int) then (m.length:Int) else (l.length:Int)))=_
  rw [Hb,hn]
 refine bb [some (.list (l.map .int)),some (.list (m.map .int)),some (.int f),some (.int (n:Nat)),some (.list []),none] rfl ?_
 obtain ⟨T,hT⟩:∃ T:Nat->Int,T=fun k=>l.getD k 0 + f * m.getD k 0:=⟨_,rfl⟩
 rw [<- hT]
 refine ko 0 n (fun i δ=>∃ x,δ=[some (.list (l.map .int)),some (.list (m.map .int)),some (.int f),some (.int (n:Nat)),some (.list ((tab i T).map .int)),x]) (h8 rfl n1) ⟨none,rfl⟩ ?_ ?_
 ·rintro i δ hi ⟨x,rfl⟩
  rw [Int.zero_add]
  have hz:∀ {δ:DS},ae 3 δ=some (.int (n:Nat))->dj (cT (aa (ae 3) ah)) [] (gC (.int (0))) δ=some ((List.replicate n (0:Int)).map .int):=fun {δ} h3=>by
   refine (g5 (fun k:Nat=>PyData.int (0 + k)) PyData.int (fun _=>0) (List.range n) (h8 (cons_of h3 rfl) n1) (by rw [List.length_range]; exact n1) fun k _=>rfl).trans ?_
   rw [List.map_const',List.length_range]
  have c1:∀ {δ:DS} {j:Nat} {w:List Int},ae 3 δ=some (.int (n:Nat))->ae j δ=some (.list (w.map .int))->w.length<=n->ax (kM eB (ae j) (ax (dj (cT (aa (ae 3) ah)) [] (gC (.int (0)))))) δ=some (.list (w.map .int ++ (List.replicate n (0:Int)).map .int)):=fun {δ j w} h3 hj hw=>
   aI (i7 hj (aI (hz h3)) (by rw [List.length_map,List.length_map,List.length_replicate]; exact n2 _ hw))
  refine ⟨_,[some (.list (l.map .int)),some (.list (m.map .int)),some (.int f),some (.int (n:Nat)),some (.list ((tab (i + 1) T).map .int)),some (.int (i:Nat))],rfl,?_,_,rfl⟩
  refine (pO (d:=.int (T i)) rfl (au (au (c1 rfl rfl nl) rfl (zV l nl hi)) (au rfl (au (c1 rfl rfl nm) rfl (zV m nm hi)) (mo (hf i))) (by rw [hT]; rfl)) (by rw [List.length_map,g0]; exact n3 i hi)).trans ?_
  have:tab (i + 1) T=tab i T ++ [T i]:=by unfold tab; rw [List.range_succ,List.map_append]; rfl
  rw [this,List.map_append]
  rfl
 ·rintro δ' ⟨x,rfl⟩
  exact ret _ rfl (.mk rfl rfl)
def fF (p:List (List Int)) (T:Int×Int->Bool) (j:Nat):Nat->Int×Int->Int
 | 0,c=>if T c=true then Bv j c.1 c.2 else 0
 | k + 1,c=>if jd p c=true then fF p T j k (c.1 + 1,c.2) + fF p T j k (c.1,c.2 + 1) else if T c=true then Bv j c.1 c.2 else 0
def FF (p:List (List Int)) (T:Int×Int->Bool) (j:Nat) (c:Int×Int):Int:=fF p T j ((p.length:Int) - (c.1 + c.2)).toNat c
section
variable {p:List (List Int)} {T:Int×Int->Bool} {j:Nat}
theorem EA {c:Int×Int} (h:jd p c=true):FF p T j c=FF p T j (c.1 + 1,c.2) + FF p T j (c.1,c.2 + 1):=by
 obtain ⟨h1,h2⟩:=pT h
 obtain ⟨k,hk⟩:∃ k:Nat,((p.length:Int) - (c.1 + c.2)).toNat=k + 1:=⟨((p.length:Int) - (c.1 + c.2)).toNat - 1,by omega⟩
 have e1:((p.length:Int) - (c.1 + 1 + c.2)).toNat=k:=by omega
 have e2:((p.length:Int) - (c.1 + (c.2 + 1))).toNat=k:=by omega
 unfold FF
 show fF p T j _ c=fF p T j ((p.length:Int) - (c.1 + 1 + c.2)).toNat _ + fF p T j ((p.length:Int) - (c.1 + (c.2 + 1))).toNat _
 rw [hk,e1,e2,fF,if_pos h]
theorem yE {c:Int×Int} (h:jd p c=false):FF p T j c=if T c=true then Bv j c.1 c.2 else 0:=by
 unfold FF
 cases ((p.length:Int) - (c.1 + c.2)).toNat with
 | zero=>rfl
 | succ k=>rw [fF,if_neg (by rw [h]; decide)]
theorem NF {x y:Bool×Bool} (hx:x.1=true \/ x.2=true) (hy:y.1=true \/ y.2=true) (h:GY x y=(true,false)):x=(true,false) /\ y=(true,false):=by
 obtain ⟨a,b⟩:=x; obtain ⟨c,d⟩:=y
 revert a b c d; decide
theorem NG {x y:Bool×Bool} (hx:x.1=true \/ x.2=true) (hy:y.1=true \/ y.2=true) (h:GY x y=(false,true)):x=(false,true) /\ y=(false,true):=by
 obtain ⟨a,b⟩:=x; obtain ⟨c,d⟩:=y
 revert a b c d; decide
theorem NH (k:Nat):∀ c:Int×Int,((p.length:Int) - (c.1 + c.2)).toNat<=k->0<=c.1->0<=c.2->(An p T c=(true,false)->FF p T j c=Bv j c.1 c.2) /\ (An p T c=(false,true)->FF p T j c=0):=by
 induction k with
 | zero=>
   intro c hk h1 h2
   have hg:jd p c=false:=by
    cases e:jd p c with
    | false=>rfl
    | true=>have:=pT e; omega
   rw [pU hg,yE hg]
   unfold k9
   cases T c <;> simp
 | succ k ih=>
   intro c hk h1 h2
   cases e:jd p c with
   | false=>
     rw [pU e,yE e]
     unfold k9
     cases T c <;> simp
   | true=>
     have:=pT e
     have i1:=ih (c.1 + 1,c.2) (by show ((p.length:Int) - (c.1 + 1 + c.2)).toNat<=k; omega) (by show 0<=c.1 + 1; omega) h2
     have i2:=ih (c.1,c.2 + 1) (by show ((p.length:Int) - (c.1 + (c.2 + 1))).toNat<=k; omega) h1 (by show 0<=c.2 + 1; omega)
     rw [Ek e,EA e]
     constructor
     ·intro h
      obtain ⟨x,y⟩:=NF (g9 _) (g9 _) h
      rw [i1.1 x,i2.1 y]
      have:=Ha j (c:=c) h1 h2
      unfold Ez at this
      show Bv j (c.1 + 1) c.2 + Bv j c.1 (c.2 + 1)=_
      omega
     ·intro h
      obtain ⟨x,y⟩:=NG (g9 _) (g9 _) h
      rw [i1.2 x,i2.2 y]; rfl
def SO (p:List (List Int)) (T:Int×Int->Bool) (j:Nat) (l:List (Int×Int)):Int:=sm (fun c=>iE p c.1 c.2 * (if T c=true then Bv j c.1 c.2 else 0)) l
theorem QX (hp:Pl p):SO p T j (aw p)=FF p T j (0,0):=by
 have:=vW hp (φ:=fun x y=>FF p T j (x,y)) fun c hc=>by
  have:=EA (T:=T) (j:=j) (jT.mp hc)
  unfold Ez
  show FF p T j (c.1 + 1,c.2) + FF p T j (c.1,c.2 + 1) - FF p T j c=0
  omega
 rw [<- this]
 unfold SO
 exact fE fun c hc=>congrArg _ (yE (iD.mp hc).2).symm
theorem QY (hp:Pl p) (hl:p.length<=24):SO (eC p T) (fun c=>decide (c∈iZ p T)) j (aw (eC p T))=FF p T j (0,0):=by
 have S:=pV (T:=T) hp hl
 have:=vW S.pl (φ:=fun x y=>FF p T j (x,y)) fun c hc=>by
  have:=EA (T:=T) (j:=j) (d6.mp ((tQ hp hl).mp (jT.mp hc)).2).1
  unfold Ez
  show FF p T j (c.1 + 1,c.2) + FF p T j (c.1,c.2 + 1) - FF p T j c=0
  omega
 rw [<- this]
 unfold SO
 refine fE fun c hc=>congrArg _ ?_
 show (if decide (c∈iZ p T)=true then Bv j c.1 c.2 else 0)=FF p T j c
 obtain ⟨X4,Hx⟩:=iD.mp hc
 obtain ⟨b,g,he⟩:=pW S.pl hc
 have n1:0<=c.1:=by rw [he.eq]; exact Int.natCast_nonneg b
 have n2:0<=c.2:=by rw [he.eq]; exact Int.natCast_nonneg g
 have ha:=NH (T:=T) (j:=j) (p:=p) _ c (Nat.le_refl _) n1 n2
 have hw:c∉wants p T:=fun z=>by rw [(tQ hp hl).mpr ⟨X4,z⟩] at Hx; cases Hx
 have el:An p T c=(true,false) \/ An p T c=(false,true):=by
  cases hg:jd p c with
  | false=>
    rw [pU hg]
    unfold k9
    cases T c <;> simp
  | true=>
    have h3:An p T c≠(true,true):=fun z=>hw (d6.mpr ⟨hg,.inr z⟩)
    have h4:=g9 (p:=p) (T:=T) c
    generalize An p T c=x at h3 h4
    obtain ⟨a,b⟩:=x
    revert a b; decide
 rcases el with e | e
 ·rw [decide_eq_true (vL.mpr ⟨hc,e⟩),if_pos rfl,ha.1 e]
 ·have ht:c∉iZ p T:=fun z=>by
   rw [(vL.mp z).2] at e
   exact absurd e (by decide)
  rw [decide_eq_false ht,if_neg Bool.false_ne_true,ha.2 e]
theorem Hc (hp:Pl p) (hl:p.length<=24):SO (eC p T) (fun c=>decide (c∈iZ p T)) j (aw (eC p T))=SO p T j (aw p):=(QY hp hl).trans (QX hp).symm
end
theorem K3 {α:Type} {f:α->Int} {N:Nat} (l:List α) (h:∀ a∈l,bt (f a)<=N):bt (sm f l)<=N + l.length:=by
 induction l with
 | nil=>exact jt (by show (0:Int).natAbs < _; exact Nat.two_pow_pos _)
 | cons a l ih=>
   rw [dn,List.length_cons,<- Nat.add_assoc]
   exact Kz (mn (h a List.mem_cons_self) (Nat.le_add_right _ _)) (ih fun b hb=>h b (List.mem_cons_of_mem _ hb))
theorem He {b g k:Nat} (h:b + g < k):co b g k=0:=by
 unfold co
 rw [if_neg (by omega),zU (by omega)]
theorem mz {n k:Nat} {S:Nat->Int} (hz:∀ k,n<=k->S k=0):(tab n S).getD k 0=S k:=by
 rw [List.getD_eq_getElem?_getD]
 by_cases h:k < n
 ·rw [GI h]; rfl
 ·rw [List.getElem?_eq_none (by rw [g0]; omega),hz k (by omega)]; rfl
theorem Ir (b g k:Nat):bt (co b g k)<=g + 1:=by
 rw [<- pZ,List.getD_eq_getElem?_getD]
 cases e:(tX b g)[k]? with
 | none=>exact jt (by show (0:Int).natAbs < _; exact Nat.two_pow_pos _)
 | some t=>exact G4 (List.mem_of_getElem? e)
theorem X5 {N:Nat}:bt (0:Int)<=N:=jt (by show (0:Int).natAbs < _; exact Nat.two_pow_pos _)
theorem NI {p:List (List Int)} (hp:Pl p) (hl:p.length<=24) (fH:∀ r∈p,r.length<=25) (T:Int×Int->Bool) (j:Nat):bt (SO p T j (aw p))<=2000:=by
 have:=pX hl fH
 refine mn (K3 (N:=60) _ fun c hc=>?_) (by omega)
 obtain ⟨b,g,he⟩:=pW hp hc
 split
 ·have e:Bv j c.1 c.2=co b g j:=by rw [he.eq]; rfl
  rw [e]
  exact mn (Kx (Ey hl he) (mn (Ir b g j) (show g + 1<=25 by have:=he.dr; omega))) (by decide)
 ·rw [Int.mul_zero]; exact X5
theorem p3 {p:List (List Int)} (hp:Pl p) (hl:p.length<=24) (fH:∀ r∈p,r.length<=25) (rs:List (Int×Int)):
  ∃ n,n<=p.length + 1 /\ (∀ k,n<=k->SO p (fun c=>decide (c∈rs)) k (aw p)=0) /\ eQ [bc p,.list (rs.map dC)]=some (.list ((tab n fun k=>SO p (fun c=>decide (c∈rs)) k (aw p)).map .int)):=by
 obtain ⟨T,hT⟩:∃ T,T=fun c:Int×Int=>decide (c∈rs):=⟨_,rfl⟩
 rw [<- hT]
 have main:fj (eQ [bc p,.list (rs.map dC)]) fun d=>∃ n,d=.list ((tab n fun k=>SO p T k (aw p)).map .int) /\ n<=p.length + 1 /\ ∀ k,n<=k->SO p T k (aw p)=0:=by
  rw [yj]
  obtain ⟨kds,ew,hd⟩:=yz hp hl fH
  refine bb [some (bc p),some (.list (rs.map dC)),some (.dict kds),none,none] (aS (call_of (cons_of rfl rfl) rfl ew)) ?_
  refine bb [some (bc p),some (.list (rs.map dC)),some (.dict kds),some (.list []),none] rfl ?_
  refine g4 dC (aw p) (fun i δ=>∃ n a,δ=[some (bc p),some (.list (rs.map dC)),some (.dict kds),some (.list ((tab n fun k=>SO p T k ((aw p).take i)).map .int)),a] /\ n<=p.length + 1 /\ ∀ k,n<=k->SO p T k ((aw p).take i)=0)
   (Ex (aI (bO (cons_of rfl rfl) rfl (kB hp hl fH)))) ⟨0,_,rfl,Nat.zero_le _,fun _ _=>rfl⟩ ?_ ?_
  ·rintro i c δ hi ⟨n,a',rfl,QZ,hz⟩
   obtain ⟨b,g,he⟩:=pW hp (List.mem_of_getElem? hi)
   have hbg:=he.dr
   have VD:c.1=(b:Int):=by rw [he.eq]
   have KQ:c.2=(g:Int):=by rw [he.eq]
   have hw:=Ey hl he
   have NJ:=hd.get (b:=c.1) (g:=c.2) (Int.ne_of_gt he.pos)
   obtain ⟨w,VF⟩:∃ w,w=iE p c.1 c.2:=⟨_,rfl⟩
   rw [<- VF] at hw NJ
   have e2:∀ k,Bv k c.1 c.2=co b g k:=fun k=>by rw [VD,KQ]; rfl
   have Et:∀ k,SO p T k ((aw p).take (i + 1))=SO p T k ((aw p).take i) + w * (if T c=true then co b g k else 0):=fun k=>by
    unfold SO
    rw [List.take_add_one,hi,yB]
    show _ + sm _ [c]=_
    rw [dn,yA,Int.add_zero,VF,e2]
   obtain ⟨S,hS⟩:∃ S,S=fun k=>SO p T k ((aw p).take i):=⟨_,rfl⟩
   have N6:∀ k,n<=k->S k=0:=fun k hk=>by rw [hS]; exact hz k hk
   have IC:∀ k,SO p T k ((aw p).take (i + 1))=S k + w * (if T c=true then co b g k else 0):=fun k=>by rw [hS]; exact Et k
   rw [<- hS]
   have hc:gB (g2 (mf false) (ae 4) (ae 1)) [some (bc p),some (.list (rs.map dC)),some (.dict kds),some (.list ((tab n S).map .int)),some (dC c)]=some (T c):=bA (au rfl rfl ((pR false c rs).trans (by rw [hT]; show some (PyData.bool (decide (c∈rs) != false))=some (PyData.bool (decide (c∈rs))); cases decide (c∈rs) <;> rfl)))
   by_cases ht:T c=true
   ·have va:=n0 (tab n S) (tX b g) w (by rw [g0]; omega) (by rw [vP]; omega) fun k=>by
     rw [pZ]
     exact DW hw (mn (Ir b g k) (show g + 1<=100 by omega)) (by decide)
    rw [g0,vP] at va
    have et:(tab (max n (b + g + 1)) fun k=>(tab n S).getD k 0 + w * (tX b g).getD k 0)=tab (max n (b + g + 1)) fun k=>SO p T k ((aw p).take (i + 1)):=nu fun k _=>by rw [mz N6,pZ,IC,if_pos ht]
    rw [et] at va
    refine ⟨_,[some (bc p),some (.list (rs.map dC)),some (.dict kds),some (.list ((tab (max n (b + g + 1)) fun k=>SO p T k ((aw p).take (i + 1))).map .int)),some (dC c)],rfl,?_,max n (b + g + 1),_,rfl,by omega,fun k hk=>by rw [IC,N6 k (by omega),if_pos ht,He (by omega),Int.mul_zero]; rfl⟩
    have vp:=vQ b g (by omega) (by omega)
    refine iW true (hc.trans (by rw [ht])) (fun _=>?_) fun z=>nomatch z
    exact aS (aI (bO (cons_of rfl (cons_of (aI (bO (cons_of (au rfl rfl (show eX (dC c) (.int 0)=some (.int (b:Nat)) by show some (PyData.int c.1)=_; rw [VD])) (cons_of (au rfl rfl (show eX (dC c) (.int 1)=some (.int (g:Nat)) by show some (PyData.int c.2)=_; rw [KQ])) rfl)) rfl vp)) (cons_of ((kT (c:=c) rfl rfl hd.fn).trans NJ) rfl))) rfl va))
   ·have vm:∀ k,SO p T k ((aw p).take (i + 1))=S k:=fun k=>by rw [IC,if_neg ht,Int.mul_zero,Int.add_zero]
    have et:(tab n fun k=>SO p T k ((aw p).take (i + 1)))=tab n S:=nu fun k _=>vm k
    refine ⟨_,[some (bc p),some (.list (rs.map dC)),some (.dict kds),some (.list ((tab n fun k=>SO p T k ((aw p).take (i + 1))).map .int)),some (dC c)],rfl,?_,n,_,rfl,QZ,fun k hk=>by rw [vm,N6 k hk]⟩
    rw [et]
    exact ju (hc.trans (by rw [Bool.not_eq_true] at ht; rw [ht]))
  ·rintro δ' ⟨n,a',rfl,QZ,hz⟩
   rw [List.take_length] at hz ⊢
   exact ret _ rfl (.mk rfl ⟨n,rfl,QZ,hz⟩)
 obtain ⟨d,e,n,rfl,h1,h2⟩:=main
 exact ⟨n,h1,h2,e⟩
theorem p4 {p:List (List Int)} {T:Int×Int->Bool} (hp:Pl p) (hl:p.length<=24) {k:Nat} {b:Int} (h:b∈(eC p T).getD k []):b∈p.getD k []:=by
 have hg:jd (eC p T) (b,(k:Int) - b)=true:=g8.mpr ⟨k,h,by show b + ((k:Int) - b)=_; omega⟩
 obtain ⟨m,h1,h2⟩:=g8.mp (d6.mp ((tQ hp hl).mp hg).2).1
 have h1:b∈p.getD m []:=h1
 have h2:b + ((k:Int) - b)=(m:Int):=h2
 have:m=k:=by omega
 rw [<- this]; exact h1
theorem tZ {g:DS->Option (List D)} {δ:DS} {l:List Bool} (h:g δ=some (l.map .bool)) (ht:∀ b∈l,b=true):fI AH (aa (ax g) ah) δ=some (.bool true):=by
 refine mr (cons_of (aI h) rfl) ?_
 show (jK (l.map .bool)).map _=_
 rw [pj]
 show some (PyData.bool (l.all id))=_
 rw [show l.all id=true from List.all_eq_true.mpr ht]
theorem mB {p:List (List Int)} {i:Nat} {δ:DS} (h:ae i δ=some (bc p)):fI df (aa (ae i) ah) δ=some (.int (p.length:Nat)):=by
 refine mr (cons_of h rfl) ?_
 unfold bc
 rw [xZ,List.length_map]
theorem vX:∀ {q:List (List Int)} {r:List Int},D4 r q->∀ s∈q,s≠[] /\ mq s
 | [],_,_,s,h=>by cases h
 | t :: q,r,c,s,h=>by
   rcases List.mem_cons.mp h with rfl | h
   ·exact ⟨c.1.1,c.1.2.1⟩
   ·exact vX c.2 s h
theorem t4 {p:List (List Int)} (hp:Pl p):∀ r∈p,r≠[] /\ mq r:=by
 obtain ⟨q,rfl,c⟩:=hp.ex
 intro r h
 rcases List.mem_cons.mp h with rfl | h
 ·exact ⟨List.cons_ne_nil _ _,List.pairwise_singleton _ _⟩
 ·exact vX c r h
theorem qB {s p:List (List Int)} (hs:Pl s) (fH:∀ r∈s,r.length<=25) (iH:p.length<=24) (hlp:s.length<=p.length) (HW:∀ k b,b∈s.getD k []->b∈p.getD k []):eF [bc s,bc p]=some (.bool true):=by
 rw [qy]
 refine b9 ?_
 have h1:1<=s.length:=by obtain ⟨q,rfl,_⟩:=hs.ex; simp
 have i0:eX (bc s) (.int 0)=some (.tuple [.int 0]):=by obtain ⟨q,rfl,_⟩:=hs.ex; exact DX
 refine nv (nW (eJ (x:=true) (gg rfl)) (nW (eJ (x:=true) (bA (D1 rfl (mB rfl) (show some (PyData.bool (decide ((1:Int)<=(s.length:Nat))))=_ by rw [decide_eq_true (by omega)]) (mB rfl) (show some (PyData.bool (decide (((s.length:Nat):Int)<=(p.length:Nat))))=_ by rw [decide_eq_true (by omega)])))) (bA (au (au rfl rfl i0) rfl (show ES (.tuple [.int 0]) (.tuple [.int 0])=some (.bool false) from rfl))))) ?_
 refine bb [some (bc s),some (bc p),some (.list (([0]:List Int).map .int)),none,none] rfl ?_
 refine g4 (fun x:List Int×Nat=>PyData.tuple [.int (x.2:Nat),dR x.1]) s.zipIdx (fun i δ=>∃ (cm:List Int) (a b:Option D),δ=[some (bc s),some (bc p),some (.list (cm.map .int)),a,b] /\ ∀ x∈s.getD i [],x∈cm) ?_ ⟨[0],_,_,rfl,?_⟩ ?_ ?_
 ·show some (iy (s.map dR))=_
  rw [vT]
 ·obtain ⟨q,rfl,_⟩:=hs.ex
  exact fun x hx=>hx
 ·rintro i ⟨r,n⟩ δ hi ⟨cm,a,b,rfl,Q0⟩
  rw [List.getElem?_zipIdx] at hi
  cases er:s[i]? with
  | none=>rw [er] at hi; cases hi
  | some r'=>
  rw [er] at hi
  simp only [Option.map_some,Nat.zero_add,Option.some.injEq,Prod.mk.injEq] at hi
  obtain ⟨rfl,rfl⟩:=hi
  have C7:=(List.getElem?_eq_some_iff.mp er).1
  have hr:=List.mem_of_getElem? er
  have Nq:=fH r' hr
  obtain ⟨el,X6⟩:=t4 hs r' hr
  have hlen:0 < r'.length:=List.length_pos_iff.mpr el
  have eg:s.getD i []=r':=by rw [List.getD_eq_getElem?_getD,er]; rfl
  have ip:eX (bc p) (.int (i:Nat))=some (dR (p.getD i [])):=by
   show nJ (p.map dR) _=_
   refine iN ?_
   rw [List.getElem?_map,List.getElem?_eq_getElem (show i < p.length by omega),List.getD_eq_getElem?_getD,List.getElem?_eq_getElem (show i < p.length by omega)]
   rfl
  have X7:Gd (ae 4) [some (bc s),some (bc p),some (.list (cm.map .int)),some (.int (i:Nat)),some (dR r')]=some (r'.map .int):=by
   have:=Iq (g:=ae 4) (δ:=[some (bc s),some (bc p),some (.list (cm.map .int)),some (.int (i:Nat)),some (dR r')]) (ns:=r') rfl rfl (by omega)
   rwa [Ga X6] at this
  have Px:lq fA (aa (ae 4) ah) [some (bc s),some (bc p),some (.list (cm.map .int)),some (.int (i:Nat)),some (dR r')]=some (r'.map .int):=rfl
  refine ⟨_,[some (bc s),some (bc p),some (.list ((r' ++ r'.map (· + 1)).map .int)),some (.int (i:Nat)),some (dR r')],rfl,?_,_,_,_,rfl,fun x hx=>?_⟩
  ·refine bK [some (bc s),some (bc p),some (.list (cm.map .int)),some (.int (i:Nat)),some (dR r')] (ju (nW (eJ (x:=true) (gg rfl)) (nW (bA (au (mr (cons_of rfl rfl) (xZ _)) rfl ((kq _ _).trans (by rw [List.length_map,decide_eq_false (show ¬ ((r'.length:Nat):Int)=0 by omega)])))) (bA (au (aI Px) (aI X7) ((D0 (G6 r' r')).trans (by rw [decide_eq_true rfl]; rfl))))))) ?_
   refine bK [some (bc s),some (bc p),some (.list (cm.map .int)),some (.int (i:Nat)),some (dR r')] (ju (eJ (x:=true) (gg (tZ (l:=r'.map fun _=>true) (g5 PyData.int PyData.bool (fun _=>true) r' rfl (by omega) fun x _=>rfl) fun b hb=>by obtain ⟨_,_,rfl⟩:=List.mem_map.mp hb; rfl)))) ?_
   refine bK [some (bc s),some (bc p),some (.list (cm.map .int)),some (.int (i:Nat)),some (dR r')] (ju (eJ (x:=true) (gg (tZ (l:=r'.map fun _=>true) (g5 PyData.int PyData.bool (fun _=>true) r' rfl (by omega) fun x hx=>?_) fun b hb=>by obtain ⟨_,_,rfl⟩:=List.mem_map.mp hb; rfl)))) ?_
   ·exact GN (au rfl rfl (zG.trans (by rw [decide_eq_true (Q0 x (by rw [eg]; exact hx))]))) (au rfl (au rfl rfl ip) (tH.trans (by rw [decide_eq_true (HW i x (by rw [eg]; exact hx))])))
   ·refine aS (aI ((i7 (x:=r'.map .int) (y:=(r'.map (· + 1)).map .int) (aI Px) (aI (g5 PyData.int PyData.int (· + 1) r' rfl (by omega) fun x _=>au rfl rfl rfl)) (by rw [List.length_map,List.length_map,List.length_map]; omega)).trans (by rw [List.map_append])))
  ·have:=d3.mp (Es hs i x hx)
   rw [eg] at this
   rcases this with h | h
   ·exact List.mem_append_left _ h
   ·exact List.mem_append_right _ (List.mem_map.mpr ⟨x - 1,h,by omega⟩)
 ·rintro δ' ⟨cm,a,b,rfl,_⟩
  exact ret (.bool true) rfl (.mk rfl rfl)
theorem Hf {p:List (List Int)} (hl:p.length<=24) (fH:∀ r∈p,r.length<=25) {cs:List (Int×Int)} (h:∃ c∈cs,c∉aw p):dY [bc p,.list (cs.map dC)]=some (r8 "NoEnd"):=by
 rw [qw]
 have e1:a9 2 (ax (bj eP 1 (aa (ae 0) ah))) [some (bc p),some (.list (cs.map dC)),none,none]=some (.nx [some (bc p),some (.list (cs.map dC)),some (.list ((aw p).map dC)),none]):=aS (aI (bO (cons_of rfl rfl) rfl (tL hl fH)))
 obtain ⟨bd,Q3⟩:∃ bd,bd=iI (gB (g2 (mf true) (ae 3) (ae 2))) (xT "NoEnd") bC:=⟨_,rfl⟩
 have hc:∀ c:Int×Int,gB (g2 (mf true) (ae 3) (ae 2)) [some (bc p),some (.list (cs.map dC)),some (.list ((aw p).map dC)),some (dC c)]=some (!decide (c∈aw p)):=fun c=>bA (au rfl rfl ((pR true c (aw p)).trans (by cases decide (c∈aw p) <;> rfl)))
 have lp:∀ (l:List (Int×Int)) (x:Option D),(∃ c∈l,c∉aw p)->ki (aD 3) bd (l.map dC) [some (bc p),some (.list (cs.map dC)),some (.list ((aw p).map dC)),x]=some (.rt (r8 "NoEnd")):=by
  intro l
  induction l with
  | nil=>rintro x ⟨c,hc,_⟩; cases hc
  | cons c l ih=>
    rintro x ⟨d,hd,hn⟩
    rw [List.map_cons,ki]
    show Option.bind (bd [some (bc p),some (.list (cs.map dC)),some (.list ((aw p).map dC)),some (dC c)]) _=_
    by_cases q:c∈aw p
    ·have:bd [some (bc p),some (.list (cs.map dC)),some (.list ((aw p).map dC)),some (dC c)]=some (.nx [some (bc p),some (.list (cs.map dC)),some (.list ((aw p).map dC)),some (dC c)]):=by
      rw [Q3]; exact ju ((hc c).trans (by rw [decide_eq_true q]; rfl))
     rw [this,Option.bind_some]
     refine ih _ ⟨d,?_,hn⟩
     rcases List.mem_cons.mp hd with rfl | z
     ·exact absurd q hn
     ·exact z
    ·have:bd [some (bc p),some (.list (cs.map dC)),some (.list ((aw p).map dC)),some (dC c)]=some (.rt (r8 "NoEnd")):=by
      rw [Q3]; exact iW true ((hc c).trans (by rw [decide_eq_false q]; rfl)) (fun _=>rfl) fun z=>nomatch z
     rw [this]; rfl
 have e2:g6 [some (bc p),some (.list (cs.map dC)),none,none]=some (.rt (r8 "NoEnd")):=(jN e1).trans (by rw [<- Q3]; exact G0 (ie rfl) (lp cs none h))
 rw [e2]; rfl
theorem K4 {gb:DS->Option Res} {hand:Str->Option D} {δ:DS} {c:Str} {d:D} (h:gb δ=some (.rt (r8 c))) (hh:hand c=some d):DR gb hand δ=some (.rt d):=by
 unfold DR; rw [h]; show (hand c).bind _=_; rw [hh]; rfl
theorem qC {p:List (List Int)} (hl:p.length<=24) (fH:∀ r∈p,r.length<=25) {cs:List (Int×Int)} (h:∃ c∈cs,c∉aw p):eG [bc p,.list (cs.map dC)]=some (.bool true):=by
 have e1:cR [bc p,.list (cs.map dC)]=some (r8 "NoEnd"):=by
  rw [tu]
  have e:iV [some (bc p),some (.list (cs.map dC)),none,none]=some (.rt (r8 "NoEnd")):=by
   refine oB ?_
   unfold ly
   rw [call_of (G:=dY) (n:=2) (g:=aa (ae 0) (aa (ae 1) ah)) (δ:=[some (bc p),some (.list (cs.map dC)),none,none]) (cons_of rfl (cons_of rfl rfl)) rfl (Hf hl fH h)]
   rfl
  rw [e]; rfl
 rw [qz]
 have e2:DR (ly (bQ cR 2 (aa (ae 0) (aa (ae 1) ah)))) (jM fk (fun _=>.bool true)) [some (bc p),some (.list (cs.map dC)),none]=some (.rt (.bool true)):=by
  have e3:ly (bQ cR 2 (aa (ae 0) (aa (ae 1) ah))) [some (bc p),some (.list (cs.map dC)),none]=some (.rt (r8 "NoEnd")):=by
   unfold ly
   rw [call_of (G:=cR) (n:=2) (g:=aa (ae 0) (aa (ae 1) ah)) (δ:=[some (bc p),some (.list (cs.map dC)),none]) (cons_of rfl (cons_of rfl rfl)) rfl e1]
   rfl
  have e4:jM fk (fun _=>PyData.bool true) "NoEnd"=some (.bool true):=by unfold jM; rw [if_pos (show ("NoEnd":Str)∈fk from .head _)]
  exact K4 e3 e4
 rw [show gj [some (bc p),some (.list (cs.map dC)),none]=_ from oB e2]; rfl
theorem EB {G:List D->Option (D×List D)} {n:Nat} {g:DS->Option (List D)} {δ:DS} {ds:List D} {r:Option (D×List D)} (h:g δ=some ds) (hn:ds.length=n) (hG:G ds=r):pB G n g δ=r:=by
 unfold pB; rw [h,Option.bind_some,if_pos hn]; exact hG
theorem NK {g:DS->Option (D×List D)} {δ:DS} {d:D} {l:List D} (h:g δ=some (d,l)):M5 g δ=some (.tuple [d,.list l]):=by
 unfold M5; rw [h]; rfl
theorem EC (l:List (Int×Int)):ES (.list (l.map dC)) (.list (l.map dC))=some (.bool false):=(D0 (Nj l l)).trans (by rw [decide_eq_true rfl]; rfl)
theorem Hg (P:Int×Int->Bool) (l:List (Int×Int)):l.filter (fun c=>decide (c∈l.filter P))=l.filter P:=List.filter_congr fun c hc=>by
 rw [Bool.eq_iff_iff,decide_eq_true_eq,List.mem_filter]
 exact ⟨fun h=>h.2,fun h=>⟨hc,h⟩⟩
theorem Hh {p:List (List Int)} {T:Int×Int->Bool} (hp:Pl p) (hl:p.length<=24):(eC p T).length<=p.length:=by
 have S:=pV (T:=T) hp hl
 have h1:1<=(eC p T).length:=by obtain ⟨q,e,_⟩:=S.pl.ex; rw [e]; simp
 have hm:(eC p T)[(eC p T).length - 1]∈eC p T:=List.getElem_mem (by omega)
 obtain ⟨b,hb⟩:=List.exists_mem_of_ne_nil _ (t4 S.pl _ hm).1
 have Nl:b∈(eC p T).getD ((eC p T).length - 1) []:=by
  rw [List.getD_eq_getElem?_getD,List.getElem?_eq_getElem (show (eC p T).length - 1 < (eC p T).length by omega)]; exact hb
 have:=p4 hp hl Nl
 apply Classical.byContradiction
 intro z
 rw [List.getD_eq_getElem?_getD,List.getElem?_eq_none (by omega)] at this
 cases this
theorem vY {p:List (List Int)} (hp:Pl p) (hl:p.length<=24) (fH:∀ r∈p,r.length<=25) {rs:List (Int×Int)} (Q4:∀ c∈rs,c∈aw p):gF [bc p,.list (rs.map dC)]=some (.bool true):=by
 rw [vE]
 refine b9 ?_
 have NL:=vN hp hl fH Q4
 obtain ⟨n1,hn1,Bq,Q5⟩:=p3 hp hl fH rs
 generalize hT:(fun c:Int×Int=>decide (c∈rs))=T at NL Bq Q5
 have S:=pV (T:=T) hp hl
 obtain ⟨n2,Vl,Oa,Q6⟩:=p3 S.pl S.Lx S.Ly (iZ p T)
 have same:∀ k,SO (eC p T) (fun c=>decide (c∈iZ p T)) k (aw (eC p T))=SO p T k (aw p):=fun k=>Hc hp hl
 have X8:∀ k,bt (SO p T k (aw p))<=2000:=fun k=>NI hp hl fH T k
 have X9:=qB (p:=p) S.pl S.Ly hl (Hh hp hl) fun k b h=>p4 hp hl h
 have ht:(aw (eC p T)).filter (fun c=>decide (c∈iZ p T))=iZ p T:=Hg _ _
 have OD:=pX S.Lx S.Ly
 have Yb:=kB S.pl S.Lx S.Ly
 have e0:(fun k=>SO (eC p T) (fun c=>decide (c∈iZ p T)) k (aw (eC p T)))=fun k=>SO p T k (aw p):=funext same
 rw [e0] at Q6
 have Q7:∀ k,n2<=k->SO p T k (aw p)=0:=fun k hk=>by rw [<- same]; exact Oa k hk
 generalize eC p T=s at *
 generalize iZ p T=t at *
 obtain ⟨F,hF⟩:∃ F,F=fun k=>SO p T k (aw p):=⟨_,rfl⟩
 rw [<- hF] at Q5 Q6
 have z1:∀ k,n1<=k->F k=0:=fun k hk=>by rw [hF]; exact Bq k hk
 have z2:∀ k,n2<=k->F k=0:=fun k hk=>by rw [hF]; exact Q7 k hk
 have bF:∀ k,bt (F k)<=2000:=fun k=>by rw [hF]; exact X8 k
 have Yc:=S.Lx
 have va:=n0 (tab n1 F) (tab n2 F) (-1) (by rw [g0]; omega) (by rw [g0]; omega) fun k=>by
  rw [mz z2]
  exact DW (m:=1) (jt (by decide)) (bF k) (by decide)
 rw [g0,g0] at va
 have et:(tab (max n1 n2) fun k=>(tab n1 F).getD k 0 + -1 * (tab n2 F).getD k 0)=tab (max n1 n2) fun _=>0:=nu fun k _=>by rw [mz z1,mz z2]; omega
 rw [et] at va
 refine bb [some (bc p),some (.list (rs.map dC)),some (.list (rs.map dC)),none,none,none] (aS (aI (show lq fA (aa (ae 1) ah) _=some (rs.map dC) from rfl))) ?_
 refine bb [some (bc p),some (.list (rs.map dC)),some (.list (rs.map dC)),some (.tuple [bc s,.list (t.map dC)]),none,none] (aS (NK (EB (cons_of rfl (cons_of rfl rfl)) rfl NL))) ?_
 refine nv (nW (eJ (x:=true) (gg rfl)) (nW (bA (au (mr (cons_of rfl rfl) (xZ _)) rfl rfl)) (nW (bA (au rfl rfl (EC rs))) (eJ (x:=true) (gg (call_of (cons_of (au rfl rfl DX) (cons_of rfl rfl)) rfl X9)))))) ?_
 refine bb [some (bc p),some (.list (rs.map dC)),some (.list (rs.map dC)),some (.tuple [bc s,.list (t.map dC)]),some (.list (t.map dC)),none] (aS (au rfl rfl Ni)) ?_
 have Q0:ba (aQ (ax (bj cu 1 (aa (g2 eX (ae 3) (gC (.int (0)))) ah)))) 1 [4] (aD 0) (gB (g2 (mf false) (ae 0) (ae 1))) (ae 0) [some (bc p),some (.list (rs.map dC)),some (.list (rs.map dC)),some (.tuple [bc s,.list (t.map dC)]),some (.list (t.map dC)),none]=some (t.map dC):=by
  refine (jv dC dC (fun x=>x) (fun c=>decide (c∈t)) (aw s) (ie (aI (bO (cons_of (au rfl rfl DX) rfl) rfl Yb))) (by omega) (fun c _=>bA (au rfl rfl ((pR false c t).trans (by cases decide (c∈t) <;> rfl)))) fun c _ _=>rfl).trans (by rw [List.map_id',ht])
 refine nv (nW (eJ (x:=true) (gg rfl)) (bA (au rfl (aI Q0) (EC t)))) ?_
 refine bb [some (bc p),some (.list (rs.map dC)),some (.list (rs.map dC)),some (.tuple [bc s,.list (t.map dC)]),some (.list (t.map dC)),some (.list ((tab (max n1 n2) fun _=>0).map .int))] (aS (aI (bO (cons_of (call_of (cons_of rfl (cons_of rfl rfl)) rfl Q5) (cons_of (call_of (cons_of (au rfl rfl DX) (cons_of rfl rfl)) rfl Q6) (cons_of rfl rfl))) rfl va))) ?_
 refine ret (.bool true) (tZ (l:=(tab (max n1 n2) fun _=>0).map fun x=>decide (x=0)) (g5 PyData.int PyData.bool (fun x=>decide (x=0)) (tab (max n1 n2) fun _=>0) rfl (by rw [g0]; omega) fun x _=>au rfl rfl (kq _ _)) fun b hb=>?_) (.mk rfl rfl)
 obtain ⟨x,hx,rfl⟩:=List.mem_map.mp hb
 obtain ⟨k,_,rfl⟩:=List.mem_map.mp hx
 rfl
theorem ED {p:List (List Int)} (hp:Pl p):∃ (l:List (Int×Int)) (e:Int×Int),aw p=l ++ [e] /\ e.1 + e.2=(p.length:Int):=by
 have h1:1<=p.length:=by obtain ⟨q,rfl,_⟩:=hp.ex; simp
 have hm:p[p.length - 1]∈p:=List.getElem_mem (by omega)
 obtain ⟨b,hb⟩:=List.exists_mem_of_ne_nil _ (t4 hp _ hm).1
 have Nl:b∈led (p.getD (p.length - 1) []):=by
  rw [List.getD_eq_getElem?_getD,List.getElem?_eq_getElem (show p.length - 1 < p.length by omega)]
  exact d3.mpr (.inl hb)
 have hc:(b,(p.length:Int) - b)∈aw p:=by
  refine iD.mpr ⟨.inr ⟨p.length - 1,Nl,by show b + ((p.length:Int) - b)=_; omega⟩,?_⟩
  cases e:jd p (b,(p.length:Int) - b) with
  | false=>rfl
  | true=>
    have:=(pT e).2
    have:b + ((p.length:Int) - b) < (p.length:Int):=this
    omega
 have el:aw p≠[]:=List.ne_nil_of_mem hc
 refine ⟨(aw p).dropLast,(aw p).getLast el,(List.dropLast_concat_getLast el).symm,?_⟩
 obtain ⟨x,y,he⟩:=pW hp (List.getLast_mem el)
 have hle:((aw p).getLast el).1 + ((aw p).getLast el).2<=(p.length:Int):=by
  have:=he.dr
  rw [he.eq]
  show (x:Int) + (y:Int)<=_
  omega
 have VG:(aw p).Pairwise fun a c=>a.1 + a.2<=c.1 + c.2:=by rw [Ej hp]; exact List.Pairwise.filter _ zO
 have Of:(p.length:Int)<=((aw p).getLast el).1 + ((aw p).getLast el).2:=by
  rw [<- List.dropLast_concat_getLast el] at VG
  have Fy:=(List.pairwise_append.mp VG).2.2
  rw [<- List.dropLast_concat_getLast el] at hc
  rcases List.mem_append.mp hc with z | z
  ·have:=Fy _ z _ (List.mem_singleton.mpr rfl)
   have:b + ((p.length:Int) - b)<=_:=this
   omega
  ·have:=List.mem_singleton.mp z
   rw [<- this]
   show _<=b + ((p.length:Int) - b)
   omega
 omega
theorem yF {p:List (List Int)} (hp:Pl p) {c:Int×Int} (h:(p.length:Int) < c.1 + c.2):c∉aw p:=fun z=>by
 obtain ⟨b,g,he⟩:=pW hp z
 have:=he.dr
 rw [he.eq] at h
 have:(p.length:Int) < (b:Int) + (g:Int):=h
 omega
theorem EE {α β:Type} (enc:α->β) (l:List α) (h:0 < l.length) (m:Int):∃ a∈l,nJ (l.map enc) (m % (l.length:Int))=some (enc a):=by
 have h0:=Int.emod_nonneg m (show (l.length:Int)≠0 by omega)
 have h1:=Int.emod_lt_of_pos m (show 0 < (l.length:Int) by omega)
 obtain ⟨k,hk⟩:∃ k:Nat,m % (l.length:Int)=(k:Nat):=⟨(m % (l.length:Int)).toNat,by omega⟩
 have VH:k < l.length:=by omega
 refine ⟨l[k],List.getElem_mem VH,?_⟩
 rw [hk]
 exact iN (by rw [List.getElem?_map,List.getElem?_eq_getElem VH]; rfl)
theorem p5 {a b:DS->Option D} {δ:DS} {x y:D} (h1:a δ=some x) (h2:b δ=some y):bB (aa a (aa b ah)) δ=some (.tuple [x,y]):=by
 unfold bB; rw [cons_of h1 (cons_of h2 rfl)]; rfl
theorem EF (ns:List Int) (h:ns.length<=63):rO [.list (ns.map .int)]=some (.bool true):=by
 rw [Nk]
 refine b9 ?_
 have cl:∀ {i:Nat} {δ:DS},bQ dv 2 (aa (ae 0) (aa (gC (.int (i:Nat))) ah)) (some (.list (ns.map .int)) :: δ)=some (.int (ns.getD i 0)):=fun {i δ}=>call_of (cons_of rfl (cons_of rfl rfl)) rfl (yk ns i)
 obtain ⟨m,Oy,F8,em⟩:=yn (ns.getD 1 0)
 obtain ⟨_,ep,p,rfl,hp,iH,fH⟩:=ym (ns.getD 0 0) m Oy (by omega)
 have hl:p.length<=24:=by omega
 have OD:=pX hl fH
 refine bb [some (.list (ns.map .int)),some (bc p),none,none,none,none,none] (aS (call_of (cons_of (cl (i:=0)) (cons_of (call_of (cons_of (cl (i:=1)) rfl) rfl em) rfl)) rfl ep)) ?_
 refine bb [some (.list (ns.map .int)),some (bc p),some (.list ((aw p).map dC)),none,none,none,none] (aS (aI (bO (cons_of rfl rfl) rfl (kB hp hl fH)))) ?_
 obtain ⟨cs,Yd,VC,_⟩:=GL PyData.int ns 2 7
 refine g4 PyData.int (cs ++ [ns.getD 2 0]) (fun _ δ=>∃ a b c d,δ=[some (.list (ns.map .int)),some (bc p),some (.list ((aw p).map dC)),a,b,c,d]) ?_ ⟨none,none,none,none,rfl⟩ ?_ ?_
 ·refine (ie (aI (i7 (x:=cs.map .int) (y:=[.int (ns.getD 2 0)]) (aI ?_) (aI (Eo (cons_of (cl (i:=2)) rfl) (by show 1<=100000; decide))) ?_))).trans ?_
  ·show some (cutD (ns.map .int) (some 2) (some 7))=_
   rw [show ((2:Int))=((2:Nat):Int) from rfl,show ((7:Int))=((7:Nat):Int) from rfl,Yd]
  ·rw [List.length_map]; show cs.length + 1<=100000; omega
  ·rw [List.map_append]; rfl
 ·rintro i x δ hi ⟨a,b,c,d,rfl⟩
  obtain ⟨bi,Ye⟩:=yw x
  obtain ⟨rs,Yg,Q4,Nq⟩:=vO (aw p) bi OD
  have Yh:=vY hp hl fH Q4
  obtain ⟨l0,le,hle,W0⟩:=ED hp
  have Yi:1<=p.length:=by obtain ⟨q,rfl,_⟩:=hp.ex; simp
  have VI:eX (.list ((aw p).map dC)) (.int (-1))=some (dC le):=by
   rw [hle]
   exact (show nJ ((l0 ++ [le]).map dC) (-1)=some (dC le) from GK (by simp))
  obtain ⟨ct,Pw,Yj⟩:=EE dC [(0,0),(0,(p.length:Int) + 1),((p.length:Int),(p.length:Int)),(le.1 + 1,le.2)] (Nat.succ_pos _) x
  have QH:ct∉aw p:=by
   simp only [List.mem_cons,List.not_mem_nil,or_false] at Pw
   rcases Pw with rfl | rfl | rfl | rfl
   ·intro z
    have:=(iD.mp z).2
    rw [Nu hp] at this
    cases this
   ·exact yF hp (by show (p.length:Int) < 0 + ((p.length:Int) + 1); omega)
   ·exact yF hp (by show (p.length:Int) < (p.length:Int) + (p.length:Int); omega)
   ·exact yF hp (by show (p.length:Int) < le.1 + 1 + le.2; omega)
  obtain ⟨at',Yk⟩:∃ z:Int,z=x / 4 % ((rs.length:Int) + 1):=⟨_,rfl⟩
  obtain ⟨m1,KG,Yl,_⟩:=pI dC rs none (some at')
  obtain ⟨m2,Ym,Yn,_⟩:=pI dC rs (some at') none
  have Yo:=qC hl fH (cs:=m1 ++ [ct] ++ m2) ⟨ct,List.mem_append_left _ (List.mem_append_right _ (List.mem_singleton.mpr rfl)),QH⟩
  refine ⟨_,[some (.list (ns.map .int)),some (bc p),some (.list ((aw p).map dC)),some (.int x),some (.list (rs.map dC)),some (dC ct),some (.int at')],rfl,?_,_,_,_,_,rfl⟩
  refine bK [some (.list (ns.map .int)),some (bc p),some (.list ((aw p).map dC)),some (.int x),some (.list (rs.map dC)),c,d] (aS (call_of (cons_of rfl (cons_of (call_of (cons_of rfl rfl) rfl Ye) rfl)) rfl Yg)) ?_
  refine bK [some (.list (ns.map .int)),some (bc p),some (.list ((aw p).map dC)),some (.int x),some (.list (rs.map dC)),c,d] (ju (eJ (x:=true) (gg (call_of (cons_of rfl (cons_of rfl rfl)) rfl Yh)))) ?_
  refine bK [some (.list (ns.map .int)),some (bc p),some (.list ((aw p).map dC)),some (.int x),some (.list (rs.map dC)),some (dC ct),d] (aS (au (aI (Eo (xs:=[dC (0,0),dC (0,(p.length:Int) + 1),dC ((p.length:Int),(p.length:Int)),dC (le.1 + 1,le.2)]) (cons_of rfl (cons_of (p5 rfl (au (mB rfl) rfl rfl)) (cons_of (p5 (mB rfl) (mB rfl)) (cons_of (p5 (au (au (au rfl rfl VI) rfl DX) rfl rfl) (au (au rfl rfl VI) rfl Ni)) rfl)))) (by show 4<=100000; decide))) (au rfl rfl (gS (by decide))) Yj)) ?_
  refine bK [some (.list (ns.map .int)),some (bc p),some (.list ((aw p).map dC)),some (.int x),some (.list (rs.map dC)),some (dC ct),some (.int at')] (by rw [Yk]; exact aS (au (au rfl rfl (dd 4 (by decide) (by decide))) (au (mr (cons_of rfl rfl) ((sZ _).trans (by rw [List.length_map]))) rfl rfl) (gS (by omega)))) ?_
  have Q8:ax (kM eB (ax (kM eB (ax (m7 (ae 4) gX (fB (ae 6)))) (ax (bw (aa (ae 5) ah))))) (ax (m7 (ae 4) (fB (ae 6)) gX))) [some (.list (ns.map .int)),some (bc p),some (.list ((aw p).map dC)),some (.int x),some (.list (rs.map dC)),some (dC ct),some (.int at')]=some (.list ((m1 ++ [ct] ++ m2).map dC)):=by
   have k1:m7 (ae 4) gX (fB (ae 6)) [some (.list (ns.map .int)),some (bc p),some (.list ((aw p).map dC)),some (.int x),some (.list (rs.map dC)),some (dC ct),some (.int at')]=some (m1.map dC):=by rw [<- KG]; rfl
   have k2:m7 (ae 4) (fB (ae 6)) gX [some (.list (ns.map .int)),some (bc p),some (.list ((aw p).map dC)),some (.int x),some (.list (rs.map dC)),some (dC ct),some (.int at')]=some (m2.map dC):=by rw [<- Ym]; rfl
   have k3:=i7 (aI k1) (show ax (bw (aa (ae 5) ah)) [some (.list (ns.map .int)),some (bc p),some (.list ((aw p).map dC)),some (.int x),some (.list (rs.map dC)),some (dC ct),some (.int at')]=some (.list [dC ct]) from rfl) (by rw [List.length_map]; show m1.length + 1<=100000; omega)
   have k4:=i7 (aI k3) (aI k2) (by rw [List.length_append,List.length_map,List.length_map]; show m1.length + 1 + m2.length<=100000; omega)
   rw [aI k4,List.map_append,List.map_append]
   rfl
  exact ju (eJ (x:=true) (gg (call_of (cons_of rfl (cons_of Q8 rfl)) rfl Yo)))
 ·rintro δ' ⟨a,b,c,d,rfl⟩
  exact ret (.bool true) rfl (.mk rfl rfl)
abbrev cS:Stmt:=top 19
theorem jU:aN ["counts","wanted","count"] ["counts"] (ai cS):=⟨rfl,rfl,rfl,by decide +kernel,rfl,by decide +kernel,by decide +kernel⟩
abbrev fV:Stmt:=top 20
theorem p6:aN ["plan","count","draws"] ["plan","count"] (ai fV):=⟨rfl,rfl,rfl,by decide +kernel,rfl,by decide +kernel,by decide +kernel⟩
abbrev e9:Stmt:=top 21
theorem jV:aN ["plan","told","draws","place"] ["plan"] (ai e9):=⟨rfl,rfl,rfl,by decide +kernel,rfl,by decide +kernel,by decide +kernel⟩
abbrev kD:Stmt:=top 22
theorem Hi:aN ["plan"] ["plan"] (ai kD):=⟨rfl,rfl,rfl,by decide +kernel,rfl,by decide +kernel,by decide +kernel⟩
abbrev dB:Stmt:=top 23
theorem i3:aN ["plan","told","draws","place"] ["plan"] (ai dB):=⟨rfl,rfl,rfl,by decide +kernel,rfl,by decide +kernel,by decide +kernel⟩
abbrev cF:Stmt:=top 24
theorem c9:aN ["plan","counts","there","count"] ["plan","counts"] (ai cF):=⟨rfl,rfl,rfl,by decide +kernel,rfl,by decide +kernel,by decide +kernel⟩
abbrev cG:Stmt:=top 25
theorem da:aN ["draws_on","places","there","draws","place"] ["draws_on"] (ai cG):=⟨rfl,rfl,rfl,by decide +kernel,rfl,by decide +kernel,by decide +kernel⟩
abbrev gI:Stmt:=top 26
theorem Bh:aN ["place"] ["place"] (ai gI):=⟨rfl,rfl,rfl,by decide +kernel,rfl,by decide +kernel,by decide +kernel⟩
abbrev jW:Stmt:=top 27
theorem EG:aN ["count","sign"] ["count","sign"] (ai jW):=⟨rfl,rfl,rfl,by decide +kernel,rfl,by decide +kernel,by decide +kernel⟩
abbrev bL:Stmt:=top 32
theorem d7:aN ["plan","rule","answers","short"] ["plan","rule"] (ai bL):=⟨rfl,rfl,rfl,by decide +kernel,rfl,by decide +kernel,by decide +kernel⟩
abbrev cX:Stmt:=top 33
theorem eI:aN ["plan","rule","answers","end","count","answer"] ["plan","rule"] (ai cX):=⟨rfl,rfl,rfl,by decide +kernel,rfl,by decide +kernel,by decide +kernel⟩
abbrev eR:Stmt:=top 35
theorem vZ:aN ["_law_script","_law_k"] ["_law_script","_law_k"] (ai eR):=⟨rfl,rfl,rfl,by decide +kernel,rfl,by decide +kernel,by decide +kernel⟩
abbrev cY:Stmt:=top 36
theorem gm:aN ["_law_cell_here","_law_base","_law_many","_law_row","_law_k"] ["_law_cell_here","_law_base","_law_many"] (ai cY):=⟨rfl,rfl,rfl,by decide +kernel,rfl,by decide +kernel,by decide +kernel⟩
abbrev dD:Stmt:=top 37
theorem hJ:aN ["_law_cell_here","_law_base","_law_many","_law_row","_law_k","_law_number"] ["_law_cell_here","_law_base","_law_many"] (ai dD):=⟨rfl,rfl,rfl,by decide +kernel,rfl,by decide +kernel,by decide +kernel⟩
abbrev cZ:Stmt:=top 38
theorem bM:aN ["_law_cell_here","_law_most_here","_law_rest","_law_many","_law_digits_here","_law_rows","_law_come","_law_at","_law_row"] ["_law_cell_here","_law_most_here"] (ai cZ):=⟨rfl,rfl,rfl,by decide +kernel,rfl,by decide +kernel,by decide +kernel⟩
abbrev eS:Stmt:=top 39
theorem v5:aN ["_law_cell_here"] ["_law_cell_here"] (ai eS):=⟨rfl,rfl,rfl,by decide +kernel,rfl,by decide +kernel,by decide +kernel⟩
abbrev c5:Stmt:=top 40
theorem fb:aN ["_law_plan_here","_law_found","_law_n","_law_on","_law_come"] ["_law_plan_here"] (ai c5):=⟨rfl,rfl,rfl,by decide +kernel,rfl,by decide +kernel,by decide +kernel⟩
abbrev eT:Stmt:=top 41
theorem dE:aN ["_law_plan_here","_law_ways_here","_law_n","_law_row","_law_bad","_law_here","_law_count"] ["_law_plan_here"] (ai eT):=⟨rfl,rfl,rfl,by decide +kernel,rfl,by decide +kernel,by decide +kernel⟩
abbrev cH:Stmt:=top 42
theorem hV:aN ["_law_bad","_law_good","_law_row","_law_k"] ["_law_bad","_law_good"] (ai cH):=⟨rfl,rfl,rfl,by decide +kernel,rfl,by decide +kernel,by decide +kernel⟩
abbrev cI:Stmt:=top 43
theorem hX:aN ["_law_row","_law_other","_law_factor","_law_many","_law_made","_law_k"] ["_law_row","_law_other","_law_factor"] (ai cI):=⟨rfl,rfl,rfl,by decide +kernel,rfl,by decide +kernel,by decide +kernel⟩
abbrev dG:Stmt:=top 44
theorem dH:aN ["_law_e","_law_named","_law_words"] ["_law_e"] (ai dG):=⟨rfl,rfl,rfl,by decide +kernel,rfl,by decide +kernel,by decide +kernel⟩
abbrev dJ:Stmt:=top 45
theorem gJ:aN ["_law_last","_law_cell_here","_law_rule_here"] ["_law_last","_law_cell_here"] (ai dJ):=⟨rfl,rfl,rfl,by decide +kernel,rfl,by decide +kernel,by decide +kernel⟩
abbrev eU:Stmt:=top 46
theorem n4:aN ["_law_cell_here","_law_row"] ["_law_cell_here"] (ai eU):=⟨rfl,rfl,rfl,by decide +kernel,rfl,by decide +kernel,by decide +kernel⟩
abbrev bD:Stmt:=top 47
theorem dM:aN ["_law_found","_law_plan_here","_law_come","_law_k","_law_row"] ["_law_found","_law_plan_here"] (ai bD):=⟨rfl,rfl,rfl,by decide +kernel,rfl,by decide +kernel,by decide +kernel⟩
abbrev eV:Stmt:=top 48
theorem gK:aN ["_law_plan_here","_law_rule_here","_law_ways_here","_law_total","_law_end"] ["_law_plan_here","_law_rule_here"] (ai eV):=⟨rfl,rfl,rfl,by decide +kernel,rfl,by decide +kernel,by decide +kernel⟩
abbrev cJ:Stmt:=top 49
theorem fG:aN ["_law_plan_here","_law_rule_here","_law_handed","_law_found","_law_told","_law_left"] ["_law_plan_here","_law_rule_here"] (ai cJ):=⟨rfl,rfl,rfl,by decide +kernel,rfl,by decide +kernel,by decide +kernel⟩
abbrev cN:Stmt:=top 50
theorem kE:aN ["_law_plan_here","_law_rule_here","_law_e"] ["_law_plan_here","_law_rule_here"] (ai cN):=⟨rfl,rfl,rfl,by decide +kernel,rfl,by decide +kernel,by decide +kernel⟩
abbrev kF:Stmt:=top 51
theorem lJ:aN ["_law_script","_law_plan_here","_law_last","_law_cell_here","_law_rule_here","_law_count","_law_at"] ["_law_script"] (ai kF):=⟨rfl,rfl,rfl,by decide +kernel,rfl,by decide +kernel,by decide +kernel⟩
section
variable {P:Program} {w:World} {K:PySem.W.Frag} {mg:Str->Option Value} {base:Heap}
theorem rQ (F:Df K mg "led_to" gI ["place"]) (B:Bs mg):Dn P w K mg base 1 "led_to" ["place"] (kY K 1 eE):=
 gY [] pJ F Bh fun f bZ A outer s H E hr=>(av (sf (jJ B.sorted B.set (PE.sh (PE.nE (dq cw cx (PE.sh (PE.nE (fM dN jk rfl B.list iO (az (ag (pv 0)) aJ)))) (PE.sh (PE.nE (PE.Bu (bJ (ai gI) ["place"] [] ["bad"] ["bad"] iL (PI.c (br (aq (pv 0)))) (fun _ _ _ _ _ _=>(ay (aE (i:=0) (show (["bad"]:List Str).Nodup from by decide +kernel) rfl (Or.inl rfl)))) (fun _ _ _ _ _ _=>dU) (fun _ _ _ _ _ _=>(aH bh aU (ag (pv 0)) (PE.sh (ak aj))))))))))))))
theorem qD (F:Df K mg "plan_while" cG ["draws_on"]) (B:Bs mg) (i8:Cn mg "MOST_PLACES" (.int (24))) {f:Addr} {c:Ca} {q:Str} {G:List D->Option D} (C:Og P w K mg base 2 f c q 2 G) (iF:Dn P w K mg base 1 "led_to" ["place"] (kY K 1 eE)):Dn P w K mg base 4 "plan_while" ["draws_on"] (gW K 1 (cV f c q G)):=
 eM [1] (jO f c q G) F da fun _ _ _ _ _ _ _ hr=>(ar (iP (aC (i:=1) da.nd rfl (Or.inl rfl) (bX ao)))
  (ar (aM (aC (i:=2) da.nd rfl (Or.inl rfl) (PE.nE (bX (af (ak aj) ao)))))
  (av (uS PassesOwn.never (cD (PE.sh (jh je))) (ar (aM (aC (i:=3) da.nd rfl (Or.inr rfl) (aT aX bS rfl B.len cM (az (ag (pv 1)) aJ))))
  (ar (aM (PS.nE (me (i:=4) (ai cG) ["draws_on","places","there","draws","place"] [0,3] ["bad","draws_on","draws"] ["bad"] da.nd rfl rfl iL (PI.c (br (aq (pv 2)))) (fun _ _ _ _ _ _=>(ay (aE (i:=0) (show (["bad","draws_on","draws"]:List Str).Nodup from by decide +kernel) rfl (Or.inl rfl)))) (fun _ _ _ _ _ _=>(iz (cD (PE.sh (Dv (i:=1) C hr (by decide) (af (aq (pv 0)) (af (aq (pv 2)) ao))))))) (fun _ _ _ _ _ _=>(aq (pv 0))))))
  (ar (cQ (aR (ez hr) imp_eq (PE.sh (aT aX bS rfl B.len cM (az (ag (pv 4)) aJ))) (PE.sh (ak aj)) (bu _)) (av (bH (ji fW kN rfl B.tuple il (az (ag (pv 1)) aJ)))) bU)
  (ar (cQ (aR (ez hr) imp_eq (ag (pv 3)) (PE.sh (ak (l6 i8))) (bu _)) (av oW) bU)
  (ar (jm (fu (lX PySem.F.plainAttrs_list PySem.F.slot_list_append PySem.F.type_list_append jf (pv 1) (bg (ji fW kN rfl B.tuple il (az (ag (pv 4)) aJ)) cn))))
  (av (aM (aC (i:=2) da.nd rfl (Or.inl rfl) (PE.nE (bx iF hr (by decide) (af (aq (pv 4)) ao)))))))))))))))
theorem t5 {c0 P0:Addr} (F:Ol K mg "plan_from" cS ["counts"] c0) (B:Bs mg) (HD:PySem.W.codeHdIn K c0 P0=true) (ML:(P0,(⟨42,22,42,69⟩:Pos),("plan_from.<locals>.<lambda>":Str))∈b7) (BB:Gm mg base) (i9:Oh P w K mg 4 2 2 "plan_while" "draws_on" cV):Dn P w K mg base 5 "plan_from" ["counts"] (gW K 1 du):=
 Gp [1] kr F jU fun f A outer s H E hr=>let hu:=Nat.lt_of_le_of_lt (Nat.add_le_add_left (show 1<=64 by decide) _) hr.units
  (ar (sL (aC (i:=1) jU.nd rfl (Or.inr rfl) zr))
  (ar (dh PassesOwn.never rfl (br (aq (pv 0))) (ay (aE (i:=2) jU.nd rfl (Or.inl rfl)))
   (av (oz (ou hu (pv 1) (ag (pv 2)) (jh je) (by rfl)))))
  (ar (cQ (xN hu (PE.sh (b8 (af (ak aj) (af (ak aj) ao)))) (ag (pv 1))) (av oW) bU)
  (av (Dz (kc:=1) (ps:=["bad","draws"]) (y:="wanted") (i:=1) (ai cS) i9 hr (by decide) BB HD ML ⟨rfl,rfl,rfl,by decide +kernel,by decide +kernel,by decide +kernel,by decide +kernel⟩ (fun base f c' cl A outer s H E hr=>let hu:=Nat.lt_of_le_of_lt (Nat.add_le_add_left (show 1<=64 by decide) _) hr.units
  (Gj hu (PE.sh (b8 (af (aq (pv 0)) (af (aH ij j3 (ag (pv 1)) (ag (pv 0))) ao)))) (ag (pv 2)))) (fun _ _ _ _ _ _ us hl=>match us,hl with | [_,_],_=>rfl))))))
theorem yG (F:Df K mg "goes_on" fV ["plan","count"]) (B:Bs mg):Dn P w K mg base 1 "goes_on" ["plan","count"] (gW K 2 ia):=
 eM [] ny F p6 fun f bZ A outer s H E hr=>(ar (aM (aC (i:=2) p6.nd rfl (Or.inl rfl) (aH bh aU (PE.sh (bP (ag (pv 1)) (PE.sh (ak aj)))) (PE.sh (bP (ag (pv 1)) (PE.sh (ak aj)))))))
  (av (bH (xj (CJ BP eK qS eK (PE.sh (ak aj)) (ag (pv 2)) (PE.sh (aT aX bS rfl B.len cM (az (ag (pv 0)) aJ)))) (wU (mX sk so (PE.sh (bP (ag (pv 1)) (PE.sh (ak aj)))) (PE.sh (bP (ag (pv 0)) (ag (pv 2)))) (by with_unfolding_all rfl)))))))
theorem yH (F:Df K mg "come_to" e9 ["plan"]) (B:Bs mg) (iF:Dn P w K mg base 1 "led_to" ["place"] (kY K 1 eE)):Dn P w K mg base 2 "come_to" ["plan"] (kY K 1 fQ):=
 gY [1] nz F jV fun f bZ A outer s H E hr=>(ar (iP (aC (i:=1) jV.nd rfl (Or.inl rfl) (bX (af (b8 (af (ak aj) (af (ak aj) ao))) ao))))
  (ar (dh PassesOwn.never rfl (Dk B.enumerate (aq (pv 0))) (jG rfl (cE (ay (aE (i:=2) jV.nd rfl (Or.inr rfl))) (cE (ay (aE (i:=3) jV.nd rfl (Or.inl rfl))) jF)))
   (av (m8 (fu (lX PySem.F.plainAttrs_list PySem.F.slot_list_extend PySem.F.type_list_extend mV (pv 1) (bg (PE.Bu (bJ (ai e9) ["plan","told","draws","place"] [2] ["bad","draws"] ["bad"] iL (PI.c (br (PE.nE (bx iF hr (by decide) (af (aq (pv 3)) ao))))) (fun _ _ _ _ _ _=>(ay (aE (i:=0) (show (["bad","draws"]:List Str).Nodup from by decide +kernel) rfl (Or.inl rfl)))) (fun _ _ _ _ _ _=>dU) (fun _ _ _ _ _ _=>(b8 (af (aq (pv 0)) (af (aH ij j3 (ag (pv 1)) (ag (pv 0))) ao)))))) cn))))))
  (av (eY (pv 1)))))
theorem Hj (F:Df K mg "ends" kD ["plan"]) (B:Bs mg) (nG:Dn P w K mg base 2 "come_to" ["plan"] (kY K 1 fQ)) (nH:Dn P w K mg base 1 "goes_on" ["plan","count"] (gW K 2 ia)):Dn P w K mg base 3 "ends" ["plan"] (kY K 1 eP):=
 gY [] ya F Hi fun f bZ A outer s H E hr=>(av (sf (bJ (ai kD) ["plan"] [0] ["count","plan"] ["count"] iL (PI.c (br (PE.nE (bx nG hr (by decide) (af (aq (pv 0)) ao))))) (fun _ _ _ _ _ _=>(ay (aE (i:=0) (show (["count","plan"]:List Str).Nodup from by decide +kernel) rfl (Or.inl rfl)))) (fun _ _ _ _ _ _=>(iz (dS (cD (PE.sh (bR nH hr (by decide) (af (aq (pv 1)) (af (aq (pv 0)) ao)))))))) (fun _ _ _ _ _ _=>(aq (pv 0))))))
theorem v7 (F:Df K mg "drawn_on" dB ["plan"]) (B:Bs mg):Dn P w K mg base 1 "drawn_on" ["plan"] (kY K 1 cq):=
 gY [1] lA F i3 fun f bZ A outer s H E hr=>(ar (iP (aC (i:=1) i3.nd rfl (Or.inl rfl) (bX ao)))
  (ar (dh PassesOwn.never rfl (pq B.enumerate (aq (pv 0))) (jG rfl (cE (ay (aE (i:=2) i3.nd rfl (Or.inr rfl))) (cE (ay (aE (i:=3) i3.nd rfl (Or.inl rfl))) jF)))
   (av (m8 (fu (lX PySem.F.plainAttrs_list PySem.F.slot_list_extend PySem.F.type_list_extend mV (pv 1) (bg (PE.Bu (bJ (ai dB) ["plan","told","draws","place"] [2] ["bad","draws"] ["bad"] iL (PI.c (br (aq (pv 3)))) (fun _ _ _ _ _ _=>(ay (aE (i:=0) (show (["bad","draws"]:List Str).Nodup from by decide +kernel) rfl (Or.inl rfl)))) (fun _ _ _ _ _ _=>dU) (fun _ _ _ _ _ _=>(b8 (af (aq (pv 0)) (af (aH ij j3 (ag (pv 1)) (ag (pv 0))) ao)))))) cn))))))
  (av (eY (pv 1)))))
theorem p8 (F:Df K mg "check_ends" cF ["plan","counts"]) (B:Bs mg) (mC:∃ C tl,Na K mg "NoEnd" C VE tl "ValueError.__new__") (eW:Dn P w K mg base 3 "ends" ["plan"] (kY K 1 eP)):Ko P w K mg base 4 "check_ends" ["plan","counts"] (EV K mg 2 dY):=by
 obtain ⟨_,_,mC⟩:=mC; exact zw [] g6 F c9 fun f bZ A outer s H E hr=>(ar (aM (aC (i:=2) c9.nd rfl (Or.inl rfl) (PE.nE (bx eW hr (by decide) (af (aq (pv 0)) ao)))))
  (av (dh PassesOwn.leaving rfl (br (aq (pv 1))) (ay (aE (i:=3) c9.nd rfl (Or.inl rfl)))
   (av (cQ (aR (rH hr) mh (ag (pv 3)) (ag (pv 2)) (by with_unfolding_all rfl)) (av (DO mC PySem.F.excBase_ValueError (by decide) PySem.F.excBase_ValueError j9)) bU)))))
theorem qE (F:Df K mg "check_ends" cF ["plan","counts"]) (B:Bs mg) (eW:Dn P w K mg base 3 "ends" ["plan"] (kY K 1 eP)):Dn P w K mg base 4 "check_ends" ["plan","counts"] (gW K 2 fD):=
 eM [] jP F c9 fun f bZ A outer s H E hr=>(ar (aM (aC (i:=2) c9.nd rfl (Or.inl rfl) (PE.nE (bx eW hr (by decide) (af (aq (pv 0)) ao)))))
  (av (dh PassesOwn.never rfl (br (aq (pv 1))) (ay (aE (i:=3) c9.nd rfl (Or.inl rfl)))
   (av (cQ (aR (rH hr) mh (ag (pv 3)) (ag (pv 2)) (by with_unfolding_all rfl)) (av oW) bU)))))
theorem EH (F:Df K mg "after" jW ["count","sign"]) (B:Bs mg):Dn P w K mg base 1 "after" ["count","sign"] (gW K 2 g7):=
 eM [] tm F EG fun f bZ A outer s H E hr=>(ar (cQ (aR (ez hr) imp_eq (ag (pv 1)) (PE.sh (fw j9)) (bu _)) (av (bH (b8 (af (aH bh aU (PE.sh (bP (ag (pv 0)) (PE.sh (ak aj)))) (PE.sh (ak aj))) (af (bP (ag (pv 0)) (PE.sh (ak aj))) ao))))) bU)
  (av (bH (b8 (af (bP (ag (pv 0)) (PE.sh (ak aj))) (af (aH bh aU (PE.sh (bP (ag (pv 0)) (PE.sh (ak aj)))) (PE.sh (ak aj))) ao))))))
theorem qF (F:Df K mg "answers_at" cX ["plan","rule"]) (B:Bs mg) (d8:Cn mg "REFUSED" (.str "refused")) (p9:Cn mg "LET_BY" (.str "let by")) (cK:Cn mg "UNSETTLED" (.str "not settled")) (oD:Dn P w K mg base 1 "after" ["count","sign"] (gW K 2 g7)) (c6:Dn P w K mg base 1 "drawn_on" ["plan"] (kY K 1 cq)) (eW:Dn P w K mg base 3 "ends" ["plan"] (kY K 1 eP)):Dn P w K mg base 4 "answers_at" ["plan","rule"] (gW K 2 cW):=
 eM [2] jQ F eI fun f bZ A outer s H E hr=>let hu:=Nat.lt_of_le_of_lt (Nat.add_le_add_left (show 1<=64 by decide) _) hr.units
  (ar (sL (aC (i:=2) eI.nd rfl (Or.inl rfl) zr))
  (ar (dh PassesOwn.never rfl (br (PE.nE (bx eW hr (by decide) (af (aq (pv 0)) ao)))) (ay (aE (i:=3) eI.nd rfl (Or.inl rfl)))
   (av (oz (ou hu (pv 2) (ag (pv 3)) (Cz (aR (xH hr) mh (ag (pv 3)) (ag (pv 1)) (by with_unfolding_all rfl)) (fw (l6 d8)) (fw (l6 p9))) (by rfl)))))
  (ar (dh PassesOwn.never rfl (uU B.reversed (PE.nE (bx c6 hr (by decide) (af (aq (pv 0)) ao)))) (ay (aE (i:=4) eI.nd rfl (Or.inl rfl)))
   (ar (aM (aC (i:=5) eI.nd rfl (Or.inl rfl) (iT hu (ag (pv 2)) (PE.sh (bR oD hr (by decide) (af (aq (pv 4)) (af (fw j9) ao)))))))
  (av (oz (ou hu (pv 2) (ag (pv 4)) (Cz (aR (ez hr) imp_eq (ag (pv 5)) (PE.sh (iT hu (ag (pv 2)) (PE.sh (bR oD hr (by decide) (af (aq (pv 4)) (af (fw j9) ao)))))) (bu _)) (aq (pv 5)) (fw (l6 cK))) (by rfl))))))
  (av (eY (pv 2))))))
theorem qG (F:Df K mg "cut_short" bL ["plan","rule"]) (B:Bs mg) (d8:Cn mg "REFUSED" (.str "refused")) (cK:Cn mg "UNSETTLED" (.str "not settled")) (d9:Dn P w K mg base 4 "answers_at" ["plan","rule"] (gW K 2 cW)) (ja:Ko P w K mg base 4 "check_ends" ["plan","counts"] (EV K mg 2 dY)) (c6:Dn P w K mg base 1 "drawn_on" ["plan"] (kY K 1 cq)) (eW:Dn P w K mg base 3 "ends" ["plan"] (kY K 1 eP)) (fe:Dn P w K mg base 5 "plan_from" ["counts"] (gW K 1 du)):Ko P w K mg base 6 "cut_short" ["plan","rule"] (EV K mg 2 cR):=by
 exact zw [] iV F d7 fun f bZ A outer s H E hr=>let hu:=Nat.lt_of_le_of_lt (Nat.add_le_add_left (show 1<=64 by decide) _) hr.units
  (ar (vk (fu (vj ja hr (by decide) Kj (af (aq (pv 0)) (af (aq (pv 1)) ao)))))
  (ar (aM (aC (i:=2) d7.nd rfl (Or.inr rfl) (bR d9 hr (by decide) (af (aq (pv 0)) (af (aq (pv 1)) ao)))))
  (ar (aM (aC (i:=3) d7.nd rfl (Or.inl rfl) (bR fe hr (by decide) (af (PE.nE (bJ (ai bL) ["plan","rule","answers","short"] [2] ["count","answers"] ["count"] iL (PI.c (br (PE.nE (bx c6 hr (by decide) (af (aq (pv 0)) ao))))) (fun _ _ _ _ _ _=>(ay (aE (i:=0) (show (["count","answers"]:List Str).Nodup from by decide +kernel) rfl (Or.inl rfl)))) (fun _ _ _ _ _ _=>(iz (PW.pt (i5 (aR (ez hr) imp_eq (ag (pv 0)) (PE.sh (b8 (af (ak aj) (af (ak aj) ao)))) (bu _)) (pw_or1 (aR (ez hr) imp_eq (PE.sh (iT hu (ag (pv 1)) (ag (pv 0)))) (PE.sh (fw (l6 cK))) (bu _))))))) (fun _ _ _ _ _ _=>(aq (pv 0))))) ao))))
  (av (bH (b8 (af (aq (pv 3)) (af (PE.nE (bJ (ai bL) ["plan","rule","answers","short"] [2] ["end","answers"] ["end"] iL (PI.c (br (PE.nE (bx eW hr (by decide) (af (aq (pv 3)) ao))))) (fun _ _ _ _ _ _=>(ay (aE (i:=0) (show (["end","answers"]:List Str).Nodup from by decide +kernel) rfl (Or.inl rfl)))) (fun _ _ _ _ _ _=>(iz (aR (ez hr) imp_eq (PE.sh (iT hu (ag (pv 1)) (ag (pv 0)))) (PE.sh (fw (l6 d8))) (bu _)))) (fun _ _ _ _ _ _=>(aq (pv 0))))) ao))))))))
theorem t6 (F:Df K mg "cut_short" bL ["plan","rule"]) (B:Bs mg) (d8:Cn mg "REFUSED" (.str "refused")) (cK:Cn mg "UNSETTLED" (.str "not settled")) (d9:Dn P w K mg base 4 "answers_at" ["plan","rule"] (gW K 2 cW)) (jX:Dn P w K mg base 4 "check_ends" ["plan","counts"] (gW K 2 fD)) (c6:Dn P w K mg base 1 "drawn_on" ["plan"] (kY K 1 cq)) (eW:Dn P w K mg base 3 "ends" ["plan"] (kY K 1 eP)) (fe:Dn P w K mg base 5 "plan_from" ["counts"] (gW K 1 du)):Dn P w K mg base 6 "cut_short" ["plan","rule"] (M4 K 2 gD):=
 Gr [] ku F d7 fun f bZ A outer s H E hr=>let hu:=Nat.lt_of_le_of_lt (Nat.add_le_add_left (show 1<=64 by decide) _) hr.units
  (sM (FV (fu (bR jX hr (by decide) (af (aq (pv 0)) (af (aq (pv 1)) ao)))))
  (sM (aM (aC (i:=2) d7.nd rfl (Or.inr rfl) (bR d9 hr (by decide) (af (aq (pv 0)) (af (aq (pv 1)) ao)))))
  (sM (aM (aC (i:=3) d7.nd rfl (Or.inl rfl) (bR fe hr (by decide) (af (PE.nE (bJ (ai bL) ["plan","rule","answers","short"] [2] ["count","answers"] ["count"] iL (PI.c (br (PE.nE (bx c6 hr (by decide) (af (aq (pv 0)) ao))))) (fun _ _ _ _ _ _=>(ay (aE (i:=0) (show (["count","answers"]:List Str).Nodup from by decide +kernel) rfl (Or.inl rfl)))) (fun _ _ _ _ _ _=>(iz (PW.pt (i5 (aR (ez hr) imp_eq (ag (pv 0)) (PE.sh (b8 (af (ak aj) (af (ak aj) ao)))) (bu _)) (pw_or1 (aR (ez hr) imp_eq (PE.sh (iT hu (ag (pv 1)) (ag (pv 0)))) (PE.sh (fw (l6 cK))) (bu _))))))) (fun _ _ _ _ _ _=>(aq (pv 0))))) ao))))
  (DB (Gq (aq (pv 3)) (bJ (ai bL) ["plan","rule","answers","short"] [2] ["end","answers"] ["end"] iL (PI.c (br (PE.nE (bx eW hr (by decide) (af (aq (pv 3)) ao))))) (fun _ _ _ _ _ _=>(ay (aE (i:=0) (show (["end","answers"]:List Str).Nodup from by decide +kernel) rfl (Or.inl rfl)))) (fun _ _ _ _ _ _=>(iz (aR (ez hr) imp_eq (PE.sh (iT hu (ag (pv 1)) (ag (pv 0)))) (PE.sh (fw (l6 d8))) (bu _)))) (fun _ _ _ _ _ _=>(aq (pv 0)))))))))
theorem v8 (F:Df K mg "_law_cell" eR ["_law_script","_law_k"]) (B:Bs mg):Dn P w K mg base 1 "_law_cell" ["_law_script","_law_k"] (gW K 2 dv):=
 eM [] lB F vZ fun f bZ A outer s H E hr=>(ar (cQ (aR qS eK (ag (pv 1)) (PE.sh (aT aX bS rfl B.len cM (az (ag (pv 0)) aJ))) (bu _)) (av (bH (bP (ag (pv 0)) (ag (pv 1))))) bU)
  (av (bH (ak aj))))
theorem qH (F:Df K mg "_law_digits" cY ["_law_cell_here","_law_base","_law_many"]) (B:Bs mg):Dn P w K mg base 1 "_law_digits" ["_law_cell_here","_law_base","_law_many"] (kY K 3 dZ):=
 gY [3] jR F gm fun f bZ A outer s H E hr=>(ar (iP (aC (i:=3) gm.nd rfl (Or.inl rfl) (bX ao)))
  (ar (dh PassesOwn.never rfl (fO B.range (af (aq (pv 2)) ao)) (ay (aE (i:=4) gm.nd rfl (Or.inl rfl)))
   (ar (jm (fu (lX PySem.F.plainAttrs_list PySem.F.slot_list_append PySem.F.type_list_append jf (pv 3) (bg (aH cB aW (ag (pv 0)) (ag (pv 1))) cn))))
  (av (aM (aC (i:=0) gm.nd rfl (Or.inl rfl) (aH gu aW (ag (pv 0)) (ag (pv 1))))))))
  (av (eY (pv 3)))))
theorem t7 (F:Df K mg "_law_mixes" dD ["_law_cell_here","_law_base","_law_many"]) (B:Bs mg):Dn P w K mg base 1 "_law_mixes" ["_law_cell_here","_law_base","_law_many"] (kY K 3 dw):=
 gY [3] kx F hJ fun f bZ A outer s H E hr=>(ar (iP (aC (i:=3) hJ.nd rfl (Or.inl rfl) (bX ao)))
  (ar (dh PassesOwn.never rfl (fO B.range (af (aq (pv 2)) ao)) (ay (aE (i:=4) hJ.nd rfl (Or.inl rfl)))
   (ar (aM (aC (i:=5) hJ.nd rfl (Or.inl rfl) (aH cB aW (PE.sh (aH bh aU (PE.sh (aH bh aU (PE.sh (aH fX aW (PE.sh (aH cB aW (ag (pv 0)) (PE.sh (ak aj)))) (PE.sh (ak aj)))) (PE.sh (aH fX aW (PE.sh (aH fX aW (ag (pv 4)) (ag (pv 4)))) (PE.sh (ak aj)))))) (PE.sh (aH fX aW (ag (pv 4)) (PE.sh (ak aj)))))) (PE.sh (ak aj)))))
  (av (jm (fu (lX PySem.F.plainAttrs_list PySem.F.slot_list_append PySem.F.type_list_append jf (pv 3) (bg (aH cB aW (PE.sh (aH gu aW (PE.sh (aH cB aW (PE.sh (aH bh aU (PE.sh (aH fX aW (ag (pv 5)) (PE.sh (ak aj)))) (ag (pv 0)))) (PE.sh (ak aj)))) (PE.sh (ak aj)))) (ag (pv 1))) cn)))))))
  (av (eY (pv 3)))))
theorem v9 (F:Df K mg "_law_plan" cZ ["_law_cell_here","_law_most_here"]) (B:Bs mg) (jY:Dn P w K mg base 1 "_law_digits" ["_law_cell_here","_law_base","_law_many"] (kY K 3 dZ)) (ff:Dn P w K mg base 1 "_law_mixes" ["_law_cell_here","_law_base","_law_many"] (kY K 3 dw)):Dn P w K mg base 2 "_law_plan" ["_law_cell_here","_law_most_here"] (gW K 2 iB):=
 eM [5] lC F bM fun f bZ A outer s H E hr=>(ar (aM (aC (i:=2) bM.nd rfl (Or.inl rfl) (aH gu aW (ag (pv 0)) (PE.sh (ak aj)))))
  (ar (aM (aC (i:=3) bM.nd rfl (Or.inr rfl) (aH bh aU (PE.sh (ak aj)) (PE.sh (aH fX aW (PE.sh (ak aj)) (PE.sh (ji z8 FT rfl B.int Cm (az (PE.sh (mX uG eK (ag (pv 1)) (PE.sh (ak aj)) (bu _))) aJ))))))))
  (ar (aM (aC (i:=4) bM.nd rfl (Or.inr rfl) (PE.nE (bx ff hr (by decide) (af (aq (pv 2)) (af (ak aj) (af (aq (pv 3)) ao)))))))
  (ar (cQ (aR L3 eK (PE.sh (aT BU FQ rfl B.abs Jv (az (ag (pv 0)) aJ))) (PE.sh (aH wZ aW (PE.sh (ak aj)) (PE.sh (ak aj)))) (bu _)) (av (aM (aC (i:=4) bM.nd rfl (Or.inr rfl) (PE.nE (bx jY hr (by decide) (af (aq (pv 2)) (af (ak aj) (af (aq (pv 3)) ao)))))))) bU)
  (ar (iP (aC (i:=5) bM.nd rfl (Or.inl rfl) (bX (af (b8 (af (ak aj) ao)) ao))))
  (ar (aM (aC (i:=6) bM.nd rfl (Or.inl rfl) (PE.nE (bX (af (ak aj) (af (ak aj) ao))))))
  (ar (aM (aC (i:=7) bM.nd rfl (Or.inr rfl) (ak aj)))
  (ar (uS PassesOwn.never (PW.pt (FP (aR qS eK (PE.sh (aT aX bS rfl B.len cM (az (ag (pv 5)) aJ))) (ag (pv 1)) (bu _)) (pw_and1 (aR uG eK (PE.sh (aT aX bS rfl B.len cM (az (ag (pv 6)) aJ))) (PE.sh (ak aj)) (bu _))))) (ar (aM (PS.nE (me (i:=8) (ai cZ) ["_law_cell_here","_law_most_here","_law_rest","_law_many","_law_digits_here","_law_rows","_law_come","_law_at","_law_row"] [4,3,7] ["_law_k","_law_bad","_law_digits_here","_law_many","_law_at"] ["_law_k","_law_bad"] bM.nd rfl rfl JX (PI.c (ma B.enumerate (aq (pv 6)))) (fun _ _ _ _ _ _=>(jG rfl (cE (ay (aE (i:=0) (show (["_law_k","_law_bad","_law_digits_here","_law_many","_law_at"]:List Str).Nodup from by decide +kernel) rfl (Or.inl rfl))) (cE (ay (aE (i:=1) (show (["_law_k","_law_bad","_law_digits_here","_law_many","_law_at"]:List Str).Nodup from by decide +kernel) rfl (Or.inl rfl))) jF)))) (fun _ _ _ _ _ _=>(iz (aR uG eK (PE.sh (bP (ag (pv 2)) (PE.sh (aH cB aW (PE.sh (aH bh aU (ag (pv 4)) (ag (pv 0)))) (ag (pv 3)))))) (PE.sh (ak aj)) (bu _)))) (fun _ _ _ _ _ _=>(aq (pv 1))))))
  (ar (aM (aC (i:=7) bM.nd rfl (Or.inr rfl) (aH bh aU (ag (pv 7)) (PE.sh (aT aX bS rfl B.len cM (az (ag (pv 6)) aJ))))))
  (ar (cQ (aR uG eK (PE.sh (aH cB aW (ag (pv 0)) (PE.sh (ak aj)))) (PE.sh (ak aj)) (bu _)) (av (aM (aC (i:=8) bM.nd rfl (Or.inl rfl) (PE.nE (oV (ag (pv 6)) (iq (PE.sh (bP (ag (pv 4)) (PE.sh (aH cB aW (ag (pv 7)) (ag (pv 3))))))) (iq (PE.sh (aT (qT rfl) zh rfl B.max Co (az (PE.sh (ak aj)) (az (PE.sh (aH ij j3 (PE.sh (aT aX bS rfl B.len cM (az (ag (pv 6)) aJ))) (PE.sh (bP (ag (pv 4)) (PE.sh (aH cB aW (PE.sh (aH bh aU (ag (pv 7)) (PE.sh (ak aj)))) (ag (pv 3)))))))) aJ)))))))))) bU)
  (ar (aM (aC (i:=6) bM.nd rfl (Or.inl rfl) (PE.nE (jJ B.sorted B.set (PE.sh (PE.nE (dq cw cx (ag (pv 8)) (PE.sh (PE.nE (PE.Bu (bJ (ai cZ) ["_law_cell_here","_law_most_here","_law_rest","_law_many","_law_digits_here","_law_rows","_law_come","_law_at","_law_row"] [] ["_law_bad"] ["_law_bad"] iL (PI.c (br (aq (pv 8)))) (fun _ _ _ _ _ _=>(ay (aE (i:=0) (show (["_law_bad"]:List Str).Nodup from by decide +kernel) rfl (Or.inl rfl)))) (fun _ _ _ _ _ _=>dU) (fun _ _ _ _ _ _=>(aH bh aU (ag (pv 0)) (PE.sh (ak aj)))))))))))))))
  (av (cQ (aR uG eK (PE.sh (aT aX bS rfl B.len cM (az (ag (pv 8)) aJ))) (PE.sh (ak aj)) (bu _)) (av (jm (fu (lX PySem.F.plainAttrs_list PySem.F.slot_list_append PySem.F.type_list_append jf (pv 5) (bg (ji fW kN rfl B.tuple il (az (ag (pv 8)) aJ)) cn))))) bU)))))))
  (av (bH (ji fW kN rfl B.tuple il (az (ag (pv 5)) aJ))))))))))))
theorem wa (F:Df K mg "_law_most" eS ["_law_cell_here"]) (B:Bs mg):Dn P w K mg base 1 "_law_most" ["_law_cell_here"] (gW K 1 iC):=
 eM [] lD F v5 fun f bZ A outer s H E hr=>(ar (cQ (aR (ez hr) imp_eq (PE.sh (aH cB aW (PE.sh (aH gu aW (ag (pv 0)) (PE.sh (ak aj)))) (PE.sh (ak aj)))) (PE.sh (ak aj)) (bu _)) (av (bH (aH bh aU (PE.sh (ak aj)) (PE.sh (aH cB aW (PE.sh (aH gu aW (ag (pv 0)) (PE.sh (ak aj)))) (PE.sh (ak aj))))))) bU)
  (av (bH (aH bh aU (PE.sh (ak aj)) (PE.sh (aH cB aW (ag (pv 0)) (PE.sh (ak aj))))))))
theorem wb (F:Df K mg "_law_ends" c5 ["_law_plan_here"]) (B:Bs mg):Dn P w K mg base 1 "_law_ends" ["_law_plan_here"] (kY K 1 cu):=
 gY [1] lE F fb fun f bZ A outer s H E hr=>(ar (iP (aC (i:=1) fb.nd rfl (Or.inl rfl) (bX ao)))
  (ar (dh PassesOwn.never rfl (Ao B.range (af (ak aj) (af (aH bh aU (PE.sh (aT aX bS rfl B.len cM (az (ag (pv 0)) aJ))) (PE.sh (ak aj))) ao))) (ay (aE (i:=2) fb.nd rfl (Or.inr rfl)))
   (ar (aM (aC (i:=3) fb.nd rfl (Or.inr rfl) (b8 ao)))
  (ar (cQ (aR qS eK (ag (pv 2)) (PE.sh (aT aX bS rfl B.len cM (az (ag (pv 0)) aJ))) (bu _)) (av (aM (aC (i:=3) fb.nd rfl (Or.inr rfl) (bP (ag (pv 0)) (ag (pv 2)))))) bU)
  (ar (aM (aC (i:=4) fb.nd rfl (Or.inl rfl) (PE.nE (jJ B.sorted B.set (PE.sh (PE.nE (dq cw cx (PE.sh (PE.nE (fM dN jk rfl B.list iO (az (PE.sh (bP (ag (pv 0)) (PE.sh (aH ij j3 (ag (pv 2)) (PE.sh (ak aj)))))) aJ)))) (PE.sh (PE.nE (PE.Bu (bJ (ai c5) ["_law_plan_here","_law_found","_law_n","_law_on","_law_come"] [] ["_law_bad"] ["_law_bad"] iL (PI.c (br (bP (ag (pv 0)) (PE.sh (aH ij j3 (ag (pv 2)) (PE.sh (ak aj))))))) (fun _ _ _ _ _ _=>(ay (aE (i:=0) (show (["_law_bad"]:List Str).Nodup from by decide +kernel) rfl (Or.inl rfl)))) (fun _ _ _ _ _ _=>dU) (fun _ _ _ _ _ _=>(aH bh aU (ag (pv 0)) (PE.sh (ak aj)))))))))))))))
  (av (m8 (fu (lX PySem.F.plainAttrs_list PySem.F.slot_list_extend PySem.F.type_list_extend mV (pv 1) (bg (bJ (ai c5) ["_law_plan_here","_law_found","_law_n","_law_on","_law_come"] [2,3] ["_law_bad","_law_n","_law_on"] ["_law_bad"] iL (PI.c (br (aq (pv 4)))) (fun _ _ _ _ _ _=>(ay (aE (i:=0) (show (["_law_bad","_law_n","_law_on"]:List Str).Nodup from by decide +kernel) rfl (Or.inl rfl)))) (fun _ _ _ _ _ _=>(iz (aR Aq Ar (ag (pv 0)) (ag (pv 2)) (by with_unfolding_all rfl)))) (fun _ _ _ _ _ _=>(b8 (af (aq (pv 0)) (af (aH ij j3 (ag (pv 1)) (ag (pv 0))) ao))))) cn)))))))))
  (av (eY (pv 1)))))
theorem wc (F:Df K mg "_law_ways" eT ["_law_plan_here"]) (B:Bs mg):Dn P w K mg base 1 "_law_ways" ["_law_plan_here"] (gW K 1 fR):=
 eM [1] lF F dE fun f bZ A outer s H E hr=>let hu:=Nat.lt_of_le_of_lt (Nat.add_le_add_left (show 1<=64 by decide) _) hr.units
  (ar (sL (aC (i:=1) dE.nd rfl (Or.inl rfl) (Dh hu (PE.sh (b8 (af (ak aj) (af (ak aj) ao)))) (ak aj))))
  (ar (dh PassesOwn.never rfl (pq B.enumerate (aq (pv 0))) (jG rfl (cE (ay (aE (i:=2) dE.nd rfl (Or.inl rfl))) (cE (ay (aE (i:=3) dE.nd rfl (Or.inl rfl))) jF)))
   (av (dh PassesOwn.never rfl (br (aq (pv 3))) (ay (aE (i:=4) dE.nd rfl (Or.inl rfl)))
   (ar (aM (aC (i:=5) dE.nd rfl (Or.inl rfl) (iT hu (ag (pv 1)) (PE.sh (b8 (af (aq (pv 4)) (af (aH ij j3 (ag (pv 2)) (ag (pv 4))) ao)))))))
  (av (dh PassesOwn.never rfl (br (b8 (af (b8 (af (aH bh aU (ag (pv 4)) (PE.sh (ak aj))) (af (aH ij j3 (ag (pv 2)) (ag (pv 4))) ao))) (af (b8 (af (aq (pv 4)) (af (aH bh aU (PE.sh (aH ij j3 (ag (pv 2)) (ag (pv 4)))) (PE.sh (ak aj))) ao))) ao)))) (ay (aE (i:=6) dE.nd rfl (Or.inl rfl)))
   (av (oz (ou hu (pv 1) (ag (pv 6)) (aH bh aU (PE.sh (De hu (ag (pv 1)) (ag (pv 6)) (ak aj))) (ag (pv 5))) (by rfl))))))))))
  (av (eY (pv 1)))))
theorem t8 (F:Df K mg "_law_power" cH ["_law_bad","_law_good"]) (B:Bs mg):Dn P w K mg base 1 "_law_power" ["_law_bad","_law_good"] (kY K 2 gE):=
 gY [] ky F hV fun f bZ A outer s H E hr=>(ar (aM (aC (i:=2) hV.nd rfl (Or.inl rfl) (PE.nE (bX (af (ak aj) ao)))))
  (ar (dh PassesOwn.never rfl (fO B.range (af (aq (pv 1)) ao)) (ay (aE (i:=3) hV.nd rfl (Or.inl rfl)))
   (av (aM (PS.nE (me (i:=2) (ai cH) ["_law_bad","_law_good","_law_row","_law_k"] [] ["_law_one","_law_other"] ["_law_one","_law_other"] hV.nd rfl rfl JX (PI.c (J6 B.zip (PE.nE (dq cw cx (ag (pv 2)) (PE.sh (PE.nE (bX (af (ak aj) ao)))))) (PE.nE (dq cw cx (PE.sh (PE.nE (bX (af (ak aj) ao)))) (ag (pv 2)))))) (fun _ _ _ _ _ _=>(jG rfl (cE (ay (aE (i:=0) (show (["_law_one","_law_other"]:List Str).Nodup from by decide +kernel) rfl (Or.inl rfl))) (cE (ay (aE (i:=1) (show (["_law_one","_law_other"]:List Str).Nodup from by decide +kernel) rfl (Or.inl rfl))) jF)))) (fun _ _ _ _ _ _=>dU) (fun _ _ _ _ _ _=>(aH ij j3 (ag (pv 0)) (ag (pv 1)))))))))
  (av (sf (dq cw cx (PE.sh (PE.nE (PE.Bu (bJ (ai cH) ["_law_bad","_law_good","_law_row","_law_k"] [] ["_law_k"] ["_law_k"] iL (PI.c (fO B.range (af (aq (pv 0)) ao))) (fun _ _ _ _ _ _=>(ay (aE (i:=0) (show (["_law_k"]:List Str).Nodup from by decide +kernel) rfl (Or.inl rfl)))) (fun _ _ _ _ _ _=>dU) (fun _ _ _ _ _ _=>(ak aj)))))) (ag (pv 2)))))))
theorem t9 (F:Df K mg "_law_added" cI ["_law_row","_law_other","_law_factor"]) (B:Bs mg):Dn P w K mg base 1 "_law_added" ["_law_row","_law_other","_law_factor"] (kY K 3 dz):=
 gY [4] kz F hX fun f bZ A outer s H E hr=>(ar (aM (aC (i:=3) hX.nd rfl (Or.inl rfl) (aT (qT rfl) zh rfl B.max Co (az (PE.sh (aT aX bS rfl B.len cM (az (ag (pv 0)) aJ))) (az (PE.sh (aT aX bS rfl B.len cM (az (ag (pv 1)) aJ))) aJ)))))
  (ar (iP (aC (i:=4) hX.nd rfl (Or.inl rfl) (bX ao)))
  (ar (dh PassesOwn.never rfl (fO B.range (af (aq (pv 3)) ao)) (ay (aE (i:=5) hX.nd rfl (Or.inl rfl)))
   (av (jm (fu (lX PySem.F.plainAttrs_list PySem.F.slot_list_append PySem.F.type_list_append jf (pv 4) (bg (aH bh aU (PE.sh (bP (PE.sh (PE.nE (dq cw cx (ag (pv 0)) (PE.sh (PE.nE (PE.Bu (bJ (ai cI) ["_law_row","_law_other","_law_factor","_law_many","_law_made","_law_k"] [] ["_law_j"] ["_law_j"] iL (PI.c (fO B.range (af (aq (pv 3)) ao))) (fun _ _ _ _ _ _=>(ay (aE (i:=0) (show (["_law_j"]:List Str).Nodup from by decide +kernel) rfl (Or.inl rfl)))) (fun _ _ _ _ _ _=>dU) (fun _ _ _ _ _ _=>(ak aj))))))))) (ag (pv 5)))) (PE.sh (aH fX aW (ag (pv 2)) (PE.sh (bP (PE.sh (PE.nE (dq cw cx (ag (pv 1)) (PE.sh (PE.nE (PE.Bu (bJ (ai cI) ["_law_row","_law_other","_law_factor","_law_many","_law_made","_law_k"] [] ["_law_j"] ["_law_j"] iL (PI.c (fO B.range (af (aq (pv 3)) ao))) (fun _ _ _ _ _ _=>(ay (aE (i:=0) (show (["_law_j"]:List Str).Nodup from by decide +kernel) rfl (Or.inl rfl)))) (fun _ _ _ _ _ _=>dU) (fun _ _ _ _ _ _=>(ak aj))))))))) (ag (pv 5))))))) cn))))))
  (av (eY (pv 4))))))
theorem ua (F:Df K mg "_law_word" dG ["_law_e"]) (B:Bs mg) (CT:Kw K mg fk tf) (Q9:mg "ValueError"=none) (Ra:Ot K fk "ValueError" (.type "ValueError")):Ov P w K mg base 1 "_law_word" ["_law_e"] (fun y=>gW K 1 (fS y)):=by
 refine GB [] pL F dH fun y f bZ A outer s H hr hy=>?_
 refine ar ?_ ?_
 ·exact (aM (aC (i:=1) dH.nd rfl (Or.inr rfl) (PE.nE (bX (af (cU fk tf CT (.head _) B.isinstance (ag (pv 0))) (af (cU fk tf CT (.tail _ (.head _)) B.isinstance (ag (pv 0))) (af (cU fk tf CT (.tail _ (.tail _ (.head _))) B.isinstance (ag (pv 0))) (af (cU fk tf CT (.tail _ (.tail _ (.tail _ (.head _)))) B.isinstance (ag (pv 0))) ao))))))))
 refine ar ?_ ?_
 ·exact (aM (aC (i:=1) dH.nd rfl (Or.inr rfl) (PE.nE (dq cw cx (ag (pv 1)) (PE.sh (PE.nE (bX (af (cU fk tf CT (.tail _ (.tail _ (.tail _ (.tail _ (.head _))))) B.isinstance (ag (pv 0))) (af (cU fk tf CT (.tail _ (.tail _ (.tail _ (.tail _ (.tail _ (.head _)))))) B.isinstance (ag (pv 0))) (af (cU fk tf CT (.tail _ (.tail _ (.tail _ (.tail _ (.tail _ (.tail _ (.head _))))))) B.isinstance (ag (pv 0))) (af (cU fk tf CT (.tail _ (.tail _ (.tail _ (.tail _ (.tail _ (.tail _ (.tail _ (.head _)))))))) B.isinstance (ag (pv 0))) ao)))))))))))
 refine ar ?_ ?_
 ·exact (aM (aC (i:=1) dH.nd rfl (Or.inr rfl) (PE.nE (dq cw cx (ag (pv 1)) (PE.sh (PE.nE (bX (af (cU fk tf CT (.tail _ (.tail _ (.tail _ (.tail _ (.tail _ (.tail _ (.tail _ (.tail _ (.head _))))))))) B.isinstance (ag (pv 0))) (af (cU fk tf CT (.tail _ (.tail _ (.tail _ (.tail _ (.tail _ (.tail _ (.tail _ (.tail _ (.tail _ (.head _)))))))))) B.isinstance (ag (pv 0))) (af (cU fk tf CT (.tail _ (.tail _ (.tail _ (.tail _ (.tail _ (.tail _ (.tail _ (.tail _ (.tail _ (.tail _ (.head _))))))))))) B.isinstance (ag (pv 0))) (af (cU fk tf CT (.tail _ (.tail _ (.tail _ (.tail _ (.tail _ (.tail _ (.tail _ (.tail _ (.tail _ (.tail _ (.tail _ (.head _)))))))))))) B.isinstance (ag (pv 0))) ao)))))))))))
 refine ar ?_ ?_
 ·exact (aM (aC (i:=1) dH.nd rfl (Or.inr rfl) (PE.nE (dq cw cx (ag (pv 1)) (PE.sh (PE.nE (bX (af (cU fk tf CT (.tail _ (.tail _ (.tail _ (.tail _ (.tail _ (.tail _ (.tail _ (.tail _ (.tail _ (.tail _ (.tail _ (.tail _ (.head _))))))))))))) B.isinstance (ag (pv 0))) (af (cU fk tf CT (.tail _ (.tail _ (.tail _ (.tail _ (.tail _ (.tail _ (.tail _ (.tail _ (.tail _ (.tail _ (.tail _ (.tail _ (.tail _ (.head _)))))))))))))) B.isinstance (ag (pv 0))) (af (cU fk tf CT (.tail _ (.tail _ (.tail _ (.tail _ (.tail _ (.tail _ (.tail _ (.tail _ (.tail _ (.tail _ (.tail _ (.tail _ (.tail _ (.tail _ (.head _))))))))))))))) B.isinstance (ag (pv 0))) ao))))))))))
 refine ar ?_ ?_
 ·refine aM ?_
  refine aC ?_ ?_ ?_ ?_ ?_ ?_
  ·exact dH.nd
  ·rfl
  ·exact (Or.inr rfl)
  ·refine PE.nE ?_
   refine bX ?_
   exact pH rfl
  ·exact A2
  ·exact .inl rfl
 refine ar ?_ ?_
 ·exact (aM (aC (i:=2) dH.nd rfl (Or.inr rfl) (PE.nE (dq cw cx (ag (pv 2)) (PE.sh (PE.nE (bX (pH (by rfl)))))))))
 refine ar ?_ ?_
 ·exact (cQ (dS (cD (PE.sh (zy fk B.isinstance (ag (pv 0)) (jz rfl Q9 Nh (v:=.ty "ValueError") rfl) (fun _ r=>r) Ra)))) (av (bH (fw j9))) bU)
 exact av (bH (Gv (PE.sh (fw j9)) (PE.nE (A3 (gd:=Ou y) (ai dG) ["_law_e","_law_named","_law_words"] [2,1] ["_law_k","_law_words","_law_named"] ["_law_k"] (fun _ _ _ _ _ _=>hy) iL (xV y 0 B.range (af (ak aj) ao)) (fun _ _ _ _ _ _=>(ay (aE (i:=0) (show (["_law_k","_law_words","_law_named"]:List Str).Nodup from by decide +kernel) rfl (Or.inl rfl)))) (fun _ _ _ _ _ _=>(iz (cD (PE.sh (bP (ag (pv 2)) (ag (pv 0))))))) (fun _ _ _ _ _ _=>(bP (ag (pv 1)) (ag (pv 0))))))))
theorem we (F:Df K mg "_law_rule" dJ ["_law_last","_law_cell_here"]) (B:Bs mg):Dn P w K mg base 1 "_law_rule" ["_law_last","_law_cell_here"] (gW K 2 fT):=
 eM [] lG F gJ fun f bZ A outer s H E hr=>(ar (aM (PS.nE (me (i:=2) (ai dJ) ["_law_last","_law_cell_here","_law_rule_here"] [1] ["_law_k","_law_end","_law_cell_here"] ["_law_k","_law_end"] gJ.nd rfl rfl JX (PI.c (ma B.enumerate (aq (pv 0)))) (fun _ _ _ _ _ _=>(jG rfl (cE (ay (aE (i:=0) (show (["_law_k","_law_end","_law_cell_here"]:List Str).Nodup from by decide +kernel) rfl (Or.inl rfl))) (cE (ay (aE (i:=1) (show (["_law_k","_law_end","_law_cell_here"]:List Str).Nodup from by decide +kernel) rfl (Or.inl rfl))) jF)))) (fun _ _ _ _ _ _=>(iz (aR (ez hr) imp_eq (PE.sh (aH IV j3 (PE.sh (aH IU aW (PE.sh (aH gu aW (ag (pv 2)) (PE.sh (ak aj)))) (ag (pv 0)))) (PE.sh (ak aj)))) (PE.sh (ak aj)) (bu _)))) (fun _ _ _ _ _ _=>(aq (pv 1))))))
  (ar (cQ (aR (ez hr) imp_eq (PE.sh (aH cB aW (ag (pv 1)) (PE.sh (ak aj)))) (PE.sh (ak aj)) (bu _)) (av (aM (aC (i:=2) gJ.nd rfl (Or.inl rfl) (PE.nE (fM dN jk rfl B.list iO (az (ag (pv 0)) aJ)))))) bU)
  (ar (cQ (aR (ez hr) imp_eq (PE.sh (aH cB aW (ag (pv 1)) (PE.sh (ak aj)))) (PE.sh (ak aj)) (bu _)) (av (aM (aC (i:=2) gJ.nd rfl (Or.inl rfl) (PE.nE (bX ao))))) bU)
  (ar (cQ (aR sk so (PE.sh (aH cB aW (ag (pv 1)) (PE.sh (ak aj)))) (PE.sh (b8 (af (ak aj) (af (ak aj) ao)))) (by with_unfolding_all rfl)) (av (aM (aC (i:=2) gJ.nd rfl (Or.inl rfl) (PE.nE (dq cw cx (PE.sh (PE.nE (xK B.list B.reversed (ag (pv 2))))) (PE.sh (PE.nE (oV (ag (pv 2)) oU (iq (PE.sh (ak aj))))))))))) bU)
  (av (bH (aq (pv 2))))))))
theorem wg (F:Df K mg "_law_bits" eU ["_law_cell_here"]) (B:Bs mg) (ff:Dn P w K mg base 1 "_law_mixes" ["_law_cell_here","_law_base","_law_many"] (kY K 3 dw)):Dn P w K mg base 2 "_law_bits" ["_law_cell_here"] (gW K 1 fU):=
 eM [] lH F n4 fun f bZ A outer s H E hr=>(ar (cQ (dS (rm qS eK qS eK (PE.sh (sd (PE.sh (aH wZ aW (PE.sh (ak aj)) (PE.sh (ak aj)))))) (ag (pv 0)) (PE.sh (aH wZ aW (PE.sh (ak aj)) (PE.sh (ak aj)))))) (av (bH (aH gu aW (ag (pv 0)) (PE.sh (ak aj))))) bU)
  (ar (aM (aC (i:=1) n4.nd rfl (Or.inl rfl) (PE.nE (bx ff hr (by decide) (af (aq (pv 0)) (af (ak aj) (af (ak aj) ao)))))))
  (av (bH (aH bh aU (PE.sh (bP (ag (pv 1)) (PE.sh (ak aj)))) (PE.sh (aH fX aW (PE.sh (ak aj)) (PE.sh (aH bh aU (PE.sh (bP (ag (pv 1)) (PE.sh (ak aj)))) (PE.sh (aH fX aW (PE.sh (ak aj)) (PE.sh (aH bh aU (PE.sh (bP (ag (pv 1)) (PE.sh (ak aj)))) (PE.sh (aH fX aW (PE.sh (ak aj)) (PE.sh (bP (ag (pv 1)) (PE.sh (ak aj)))))))))))))))))))
theorem qa (F:Df K mg "_law_is_plan" bD ["_law_found","_law_plan_here"]) (B:Bs mg):Dn P w K mg base 1 "_law_is_plan" ["_law_found","_law_plan_here"] (gW K 2 eF):=
 eM [] i6 F dM fun f bZ A outer s H E hr=>(ar (cQ (PW.pt (i5 (dS (cD (PE.sh (mZ "tuple" B.isinstance (ag (pv 0)) (jz rfl B.tuple il (v:=.ty "tuple") rfl))))) (i5 (dS (rm BP eK BP eK (PE.sh (ak aj)) (PE.sh (aT aX bS rfl B.len cM (az (ag (pv 0)) aJ))) (PE.sh (aT aX bS rfl B.len cM (az (ag (pv 1)) aJ))))) (pw_or1 (aR (oQ hr) oR (PE.sh (bP (ag (pv 0)) (PE.sh (ak aj)))) (PE.sh (b8 (af (ak aj) ao))) (bu _)))))) (av (bH (jh je))) bU)
  (ar (aM (aC (i:=2) dM.nd rfl (Or.inr rfl) (PE.nE (bX (af (ak aj) ao)))))
  (ar (dh PassesOwn.never rfl (pq B.enumerate (aq (pv 0))) (jG rfl (cE (ay (aE (i:=3) dM.nd rfl (Or.inr rfl))) (cE (ay (aE (i:=4) dM.nd rfl (Or.inl rfl))) jF)))
   (ar (cQ (PW.pt (i5 (dS (cD (PE.sh (mZ "tuple" B.isinstance (ag (pv 4)) (jz rfl B.tuple il (v:=.ty "tuple") rfl))))) (i5 (aR (ez hr) imp_eq (PE.sh (aT aX bS rfl B.len cM (az (ag (pv 4)) aJ))) (PE.sh (ak aj)) (bu _)) (pw_or1 (aR (oQ hr) oR (PE.sh (PE.nE (fM dN jk rfl B.list iO (az (ag (pv 4)) aJ)))) (PE.sh (PE.nE (jJ B.sorted B.set (ag (pv 4))))) (bu _)))))) (av (bH (jh je))) bU)
  (ar (cQ (dS (cD (PE.sh (aT (nk rfl) sI rfl B.all xC (az (PE.sh (PE.nE (PE.Bu (bJ (ai bD) ["_law_found","_law_plan_here","_law_come","_law_k","_law_row"] [] ["_law_bad"] ["_law_bad"] iL (PI.c (br (aq (pv 4)))) (fun _ _ _ _ _ _=>(ay (aE (i:=0) (show (["_law_bad"]:List Str).Nodup from by decide +kernel) rfl (Or.inl rfl)))) (fun _ _ _ _ _ _=>dU) (fun _ _ _ _ _ _=>(xj (mZ "int" B.isinstance (ag (pv 0)) (jz rfl B.int Cm (v:=.ty "int") rfl)) (wU (JG (PE.sh (mZ "bool" B.isinstance (ag (pv 0)) (jz rfl B.bool FG (v:=.ty "bool") rfl))))))))))) aJ))))) (av (bH (jh je))) bU)
  (ar (cQ (dS (cD (PE.sh (aT (nk rfl) sI rfl B.all xC (az (PE.sh (PE.nE (PE.Bu (bJ (ai bD) ["_law_found","_law_plan_here","_law_come","_law_k","_law_row"] [2,1,3] ["_law_bad","_law_come","_law_plan_here","_law_k"] ["_law_bad"] iL (PI.c (br (aq (pv 4)))) (fun _ _ _ _ _ _=>(ay (aE (i:=0) (show (["_law_bad","_law_come","_law_plan_here","_law_k"]:List Str).Nodup from by decide +kernel) rfl (Or.inl rfl)))) (fun _ _ _ _ _ _=>dU) (fun _ _ _ _ _ _=>(xj (mX sk so (ag (pv 0)) (ag (pv 1)) (by with_unfolding_all rfl)) (wU (mX sk so (ag (pv 0)) (PE.sh (bP (ag (pv 2)) (ag (pv 3)))) (by with_unfolding_all rfl))))))))) aJ))))) (av (bH (jh je))) bU)
  (av (aM (aC (i:=2) dM.nd rfl (Or.inr rfl) (PE.nE (dq cw cx (PE.sh (PE.nE (fM dN jk rfl B.list iO (az (ag (pv 4)) aJ)))) (PE.sh (PE.nE (PE.Bu (bJ (ai bD) ["_law_found","_law_plan_here","_law_come","_law_k","_law_row"] [] ["_law_bad"] ["_law_bad"] iL (PI.c (br (aq (pv 4)))) (fun _ _ _ _ _ _=>(ay (aE (i:=0) (show (["_law_bad"]:List Str).Nodup from by decide +kernel) rfl (Or.inl rfl)))) (fun _ _ _ _ _ _=>dU) (fun _ _ _ _ _ _=>(aH bh aU (ag (pv 0)) (PE.sh (ak aj)))))))))))))))))
  (av (bH (jh je))))))
theorem wj (F:Df K mg "_law_odds" eV ["_law_plan_here","_law_rule_here"]) (B:Bs mg) (fi:Dn P w K mg base 1 "_law_added" ["_law_row","_law_other","_law_factor"] (kY K 3 dz)) (c7:Dn P w K mg base 1 "_law_ends" ["_law_plan_here"] (kY K 1 cu)) (kG:Dn P w K mg base 1 "_law_power" ["_law_bad","_law_good"] (kY K 2 gE)) (lK:Dn P w K mg base 1 "_law_ways" ["_law_plan_here"] (gW K 1 fR)):Dn P w K mg base 2 "_law_odds" ["_law_plan_here","_law_rule_here"] (gW K 2 eQ):=
 eM [] lI F gK fun f bZ A outer s H E hr=>let hu:=Nat.lt_of_le_of_lt (Nat.add_le_add_left (show 1<=64 by decide) _) hr.units
  (ar (aM (aC (i:=2) gK.nd rfl (Or.inl rfl) (bR lK hr (by decide) (af (aq (pv 0)) ao))))
  (ar (aM (aC (i:=3) gK.nd rfl (Or.inl rfl) (PE.nE (bX ao))))
  (ar (dh PassesOwn.never rfl (br (PE.nE (bx c7 hr (by decide) (af (aq (pv 0)) ao)))) (ay (aE (i:=4) gK.nd rfl (Or.inl rfl)))
   (av (cQ (aR (xH hr) mh (ag (pv 4)) (ag (pv 1)) (by with_unfolding_all rfl)) (av (aM (aC (i:=3) gK.nd rfl (Or.inl rfl) (PE.nE (bx fi hr (by decide) (af (aq (pv 3)) (af (PE.nE (bx kG hr (by decide) (af (bP (ag (pv 4)) (PE.sh (ak aj))) (af (bP (ag (pv 4)) (PE.sh (ak aj))) ao)))) (af (iT hu (ag (pv 2)) (ag (pv 4))) ao)))))))) bU)))
  (av (bH (aq (pv 3)))))))
theorem ub (F:Df K mg "_law_right" cJ ["_law_plan_here","_law_rule_here"]) (B:Bs mg) (fi:Dn P w K mg base 1 "_law_added" ["_law_row","_law_other","_law_factor"] (kY K 3 dz)) (c7:Dn P w K mg base 1 "_law_ends" ["_law_plan_here"] (kY K 1 cu)) (jb:Dn P w K mg base 1 "_law_is_plan" ["_law_found","_law_plan_here"] (gW K 2 eF)) (jZ:Dn P w K mg base 2 "_law_odds" ["_law_plan_here","_law_rule_here"] (gW K 2 eQ)) (kH:Dn P w K mg base 6 "cut_short" ["plan","rule"] (M4 K 2 gD)):Dn P w K mg base 7 "_law_right" ["_law_plan_here","_law_rule_here"] (gW K 2 gF):=
 eM [] kA F fG fun f bZ A outer s H E hr=>(ar (aM (aC (i:=2) fG.nd rfl (Or.inl rfl) (PE.nE (fM dN jk rfl B.list iO (az (ag (pv 1)) aJ)))))
  (ar (aM (aC (i:=3) fG.nd rfl (Or.inl rfl) (DC kH hr (by decide) (af (aq (pv 0)) (af (aq (pv 2)) ao)))))
  (ar (cQ (PW.pt (i5 (dS (cD (PE.sh (mZ "tuple" B.isinstance (ag (pv 3)) (jz rfl B.tuple il (v:=.ty "tuple") rfl))))) (i5 (aR (oQ hr) oR (PE.sh (aT aX bS rfl B.len cM (az (ag (pv 3)) aJ))) (PE.sh (ak aj)) (bu _)) (i5 (aR (oQ hr) oR (ag (pv 2)) (ag (pv 1)) (bu _)) (pw_or1 (dS (cD (PE.sh (bR jb hr (by decide) (af (bP (ag (pv 3)) (PE.sh (ak aj))) (af (aq (pv 0)) ao))))))))))) (av (bH (jh je))) bU)
  (ar (aM (aC (i:=4) fG.nd rfl (Or.inr rfl) (bP (ag (pv 3)) (PE.sh (ak aj)))))
  (ar (cQ (PW.pt (i5 (dS (cD (PE.sh (mZ "list" B.isinstance (ag (pv 4)) (jz rfl B.list iO (v:=.ty "list") rfl))))) (pw_or1 (aR (oQ hr) oR (ag (pv 4)) (PE.sh (PE.nE (bJ (ai cJ) ["_law_plan_here","_law_rule_here","_law_handed","_law_found","_law_told","_law_left"] [4] ["_law_end","_law_told"] ["_law_end"] iL (PI.c (br (PE.nE (bx c7 hr (by decide) (af (bP (ag (pv 3)) (PE.sh (ak aj))) ao))))) (fun _ _ _ _ _ _=>(ay (aE (i:=0) (show (["_law_end","_law_told"]:List Str).Nodup from by decide +kernel) rfl (Or.inl rfl)))) (fun _ _ _ _ _ _=>(iz (aR (xH hr) mh (ag (pv 0)) (ag (pv 1)) (by with_unfolding_all rfl)))) (fun _ _ _ _ _ _=>(aq (pv 0)))))) (bu _))))) (av (bH (jh je))) bU)
  (ar (aM (aC (i:=5) fG.nd rfl (Or.inl rfl) (PE.nE (bx fi hr (by decide) (af (bR jZ hr (by decide) (af (aq (pv 0)) (af (aq (pv 1)) ao))) (af (bR jZ hr (by decide) (af (bP (ag (pv 3)) (PE.sh (ak aj))) (af (aq (pv 4)) ao))) (af (sd (PE.sh (ak aj))) ao)))))))
  (av (bH (aT (nk rfl) sI rfl B.all xC (az (PE.sh (PE.nE (PE.Bu (bJ (ai cJ) ["_law_plan_here","_law_rule_here","_law_handed","_law_found","_law_told","_law_left"] [] ["_law_one"] ["_law_one"] iL (PI.c (br (aq (pv 5)))) (fun _ _ _ _ _ _=>(ay (aE (i:=0) (show (["_law_one"]:List Str).Nodup from by decide +kernel) rfl (Or.inl rfl)))) (fun _ _ _ _ _ _=>dU) (fun _ _ _ _ _ _=>(mX (ez hr) imp_eq (ag (pv 0)) (PE.sh (ak aj)) (bu _))))))) aJ))))))))))
theorem qb (F:Df K mg "_law_refused" cN ["_law_plan_here","_law_rule_here"]) (B:Bs mg) {cL:Addr} (mL:mg "LotError"=some (.ref cL)) (CE:Ng K mg cL fk) (kI:Ov P w K mg base 1 "_law_word" ["_law_e"] (fun y=>gW K 1 (fS y))) (j1:Ko P w K mg base 6 "cut_short" ["plan","rule"] (EV K mg 2 cR)):Dn P w K mg base 7 "_law_refused" ["_law_plan_here","_law_rule_here"] (gW K 2 eG):=
 eM [] gj F kE fun f bZ A outer s H E hr=>(ar (Ks (i:=2) (gs:=k8) (hand:=jM fk (fun _=>.bool true)) (fun js E=>(av (vk (fu (vj j1 hr (by decide) GA (af (aq (pv 0)) (af (aq (pv 1)) ao))))))) (fun a=>(av (bH (mX (Ku (hr.markX _)) imp_eq (PE.sh (DT (G:=fS) (y:=a) kI (hr.markX _) (by decide) rfl (af (aq (pv 2)) ao))) (PE.sh (fw j9)) (bu _))))) (fun c d h=>CE c (xW h)) pM mL kE.nd)
  (av (bH (jh je))))
theorem K5 {f:Addr} {fd:FuncData} (F:j6 K "law" "law" kF f fd) (B:Bs mg) (lL:Dn P w K mg base 2 "_law_bits" ["_law_cell_here"] (gW K 1 fU)) (iG:Dn P w K mg base 1 "_law_cell" ["_law_script","_law_k"] (gW K 2 dv)) (c7:Dn P w K mg base 1 "_law_ends" ["_law_plan_here"] (kY K 1 cu)) (lM:Dn P w K mg base 1 "_law_most" ["_law_cell_here"] (gW K 1 iC)) (lN:Dn P w K mg base 2 "_law_plan" ["_law_cell_here","_law_most_here"] (gW K 2 iB)) (jc:Dn P w K mg base 7 "_law_refused" ["_law_plan_here","_law_rule_here"] (gW K 2 eG)) (kJ:Dn P w K mg base 7 "_law_right" ["_law_plan_here","_law_rule_here"] (gW K 2 gF)) (lO:Dn P w K mg base 1 "_law_rule" ["_law_last","_law_cell_here"] (gW K 2 fT)):lb P w K mg base mF 8 f fd ["_law_script"] (gW K 1 rO):=
 Mu [] D3 F lJ fun f bZ A outer s H E hr=>(ar (aM (aC (i:=1) lJ.nd rfl (Or.inl rfl) (bR lN hr (by decide) (af (bR iG hr (by decide) (af (aq (pv 0)) (af (ak aj) ao))) (af (bR lM hr (by decide) (af (bR iG hr (by decide) (af (aq (pv 0)) (af (ak aj) ao))) ao)) ao)))))
  (ar (aM (aC (i:=2) lJ.nd rfl (Or.inl rfl) (PE.nE (bx c7 hr (by decide) (af (aq (pv 1)) ao)))))
  (ar (dh PassesOwn.never rfl (br (PE.nE (dq cw cx (PE.sh (PE.nE (oV (ag (pv 0)) (iq (PE.sh (ak aj))) (iq (PE.sh (ak aj)))))) (PE.sh (PE.nE (bX (af (bR iG hr (by decide) (af (aq (pv 0)) (af (ak aj) ao))) ao))))))) (ay (aE (i:=3) lJ.nd rfl (Or.inl rfl)))
   (ar (aM (aC (i:=4) lJ.nd rfl (Or.inl rfl) (bR lO hr (by decide) (af (aq (pv 2)) (af (bR lL hr (by decide) (af (aq (pv 3)) ao)) ao)))))
  (ar (cQ (dS (cD (PE.sh (bR kJ hr (by decide) (af (aq (pv 1)) (af (aq (pv 4)) ao)))))) (av (bH (jh je))) bU)
  (ar (aM (aC (i:=5) lJ.nd rfl (Or.inl rfl) (bP (PE.sh (PE.nE (bX (af (b8 (af (ak aj) (af (ak aj) ao))) (af (b8 (af (ak aj) (af (aH bh aU (PE.sh (aT aX bS rfl B.len cM (az (ag (pv 1)) aJ))) (PE.sh (ak aj))) ao))) (af (b8 (af (aT aX bS rfl B.len cM (az (ag (pv 1)) aJ)) (af (aT aX bS rfl B.len cM (az (ag (pv 1)) aJ)) ao))) (af (b8 (af (aH bh aU (PE.sh (bP (PE.sh (bP (ag (pv 2)) (PE.sh (sd (PE.sh (ak aj)))))) (PE.sh (ak aj)))) (PE.sh (ak aj))) (af (bP (PE.sh (bP (ag (pv 2)) (PE.sh (sd (PE.sh (ak aj)))))) (PE.sh (ak aj))) ao))) ao))))))) (PE.sh (aH cB aW (ag (pv 3)) (PE.sh (ak aj)))))))
  (ar (aM (aC (i:=6) lJ.nd rfl (Or.inl rfl) (aH cB aW (PE.sh (aH gu aW (ag (pv 3)) (PE.sh (ak aj)))) (PE.sh (aH bh aU (PE.sh (aT aX bS rfl B.len cM (az (ag (pv 4)) aJ))) (PE.sh (ak aj)))))))
  (av (cQ (dS (cD (PE.sh (bR jc hr (by decide) (af (aq (pv 1)) (af (PE.nE (dq cw cx (PE.sh (PE.nE (dq cw cx (PE.sh (PE.nE (oV (ag (pv 4)) oU (iq (ag (pv 6)))))) (PE.sh (PE.nE (bX (af (aq (pv 5)) ao))))))) (PE.sh (PE.nE (oV (ag (pv 4)) (iq (ag (pv 6))) oU))))) ao)))))) (av (bH (jh je))) bU)))))))
  (av (bH (jh je))))))
end
structure QF (K:PySem.W.Frag) (n:Str) (st:Stmt) (f:Addr) (od an:Option Addr) (sl:Array (Option Value)) (oc kV dc pm cd ct:Value):Prop where
 a:PySem.W.nsIn K mainGlobals n=some (some (.ref f))
 l:K.lookup f=some ⟨oc,od,.func (PySem.W.fnOf n n (jw st) (cz st) (ai st) .none kV dc pm an cd ct),sl⟩
 c:PySem.W.codeIn K cd n=true
 k:PySem.W.keepIn K (.ref f)=true
theorem EI {us:List Value} {n:Nat} (h:us.length=n + 1):∃ a r,us=a :: r /\ r.length=n:=by cases us with | nil=>cases h | cons a r=>exact ⟨a,r,rfl,Nat.succ.inj h⟩
theorem len_1 (us:List Value) (h:us.length=1):∃ a0,us=[a0]:=by obtain ⟨a,r,rfl,g⟩:=EI h; rw [List.length_eq_zero_iff.mp g]; exact ⟨a,rfl⟩
theorem len_2 (us:List Value) (h:us.length=2):∃ a0 a1,us=[a0,a1]:=by obtain ⟨a,r,rfl,g⟩:=EI h; obtain ⟨a0,rfl⟩:=len_1 r g; exact ⟨a,a0,rfl⟩
theorem len_3 (us:List Value) (h:us.length=3):∃ a0 a1 a2,us=[a0,a1,a2]:=by obtain ⟨a,r,rfl,g⟩:=EI h; obtain ⟨a0,a1,rfl⟩:=len_2 r g; exact ⟨a,a0,a1,rfl⟩
section
variable {K:PySem.W.Frag} {mg:Str->Option Value} {f c:Addr} {fd:FuncData}
theorem yI (F:j6 K "goes_on" "goes_on" fV f fd) (m:mg "goes_on"=some (.ref f)):Df K mg "goes_on" fV ["plan","count"]:=⟨f,fd,F,m,F.binds fun _ _ _ _ _ _ us hl=>by obtain ⟨a0,a1,rfl⟩:=len_2 us hl; rfl⟩
theorem yJ (F:j6 K "come_to" "come_to" e9 f fd) (m:mg "come_to"=some (.ref f)):Df K mg "come_to" e9 ["plan"]:=⟨f,fd,F,m,F.binds fun _ _ _ _ _ _ us hl=>by obtain ⟨a0,rfl⟩:=len_1 us hl; rfl⟩
theorem Hk (F:j6 K "ends" "ends" kD f fd) (m:mg "ends"=some (.ref f)):Df K mg "ends" kD ["plan"]:=⟨f,fd,F,m,F.binds fun _ _ _ _ _ _ us hl=>by obtain ⟨a0,rfl⟩:=len_1 us hl; rfl⟩
theorem wm (F:j6 K "drawn_on" "drawn_on" dB f fd) (m:mg "drawn_on"=some (.ref f)):Df K mg "drawn_on" dB ["plan"]:=⟨f,fd,F,m,F.binds fun _ _ _ _ _ _ us hl=>by obtain ⟨a0,rfl⟩:=len_1 us hl; rfl⟩
theorem qI (F:j6 K "check_ends" "check_ends" cF f fd) (m:mg "check_ends"=some (.ref f)):Df K mg "check_ends" cF ["plan","counts"]:=⟨f,fd,F,m,F.binds fun _ _ _ _ _ _ us hl=>by obtain ⟨a0,a1,rfl⟩:=len_2 us hl; rfl⟩
theorem qJ (F:j6 K "plan_while" "plan_while" cG f fd) (m:mg "plan_while"=some (.ref f)):Df K mg "plan_while" cG ["draws_on"]:=⟨f,fd,F,m,F.binds fun _ _ _ _ _ _ us hl=>by obtain ⟨a0,rfl⟩:=len_1 us hl; rfl⟩
theorem Bi (F:j6 K "led_to" "led_to" gI f fd) (m:mg "led_to"=some (.ref f)):Df K mg "led_to" gI ["place"]:=⟨f,fd,F,m,F.binds fun _ _ _ _ _ _ us hl=>by obtain ⟨a0,rfl⟩:=len_1 us hl; rfl⟩
theorem EJ (F:j6 K "after" "after" jW f fd) (m:mg "after"=some (.ref f)):Df K mg "after" jW ["count","sign"]:=⟨f,fd,F,m,F.binds fun _ _ _ _ _ _ us hl=>by obtain ⟨a0,a1,rfl⟩:=len_2 us hl; rfl⟩
theorem uc (F:j6 K "cut_short" "cut_short" bL f fd) (m:mg "cut_short"=some (.ref f)):Df K mg "cut_short" bL ["plan","rule"]:=⟨f,fd,F,m,F.binds fun _ _ _ _ _ _ us hl=>by obtain ⟨a0,a1,rfl⟩:=len_2 us hl; rfl⟩
theorem qK (F:j6 K "answers_at" "answers_at" cX f fd) (m:mg "answers_at"=some (.ref f)):Df K mg "answers_at" cX ["plan","rule"]:=⟨f,fd,F,m,F.binds fun _ _ _ _ _ _ us hl=>by obtain ⟨a0,a1,rfl⟩:=len_2 us hl; rfl⟩
theorem wq (F:j6 K "_law_cell" "_law_cell" eR f fd) (m:mg "_law_cell"=some (.ref f)):Df K mg "_law_cell" eR ["_law_script","_law_k"]:=⟨f,fd,F,m,F.binds fun _ _ _ _ _ _ us hl=>by obtain ⟨a0,a1,rfl⟩:=len_2 us hl; rfl⟩
theorem qL (F:j6 K "_law_digits" "_law_digits" cY f fd) (m:mg "_law_digits"=some (.ref f)):Df K mg "_law_digits" cY ["_law_cell_here","_law_base","_law_many"]:=⟨f,fd,F,m,F.binds fun _ _ _ _ _ _ us hl=>by obtain ⟨a0,a1,a2,rfl⟩:=len_3 us hl; rfl⟩
theorem ud (F:j6 K "_law_mixes" "_law_mixes" dD f fd) (m:mg "_law_mixes"=some (.ref f)):Df K mg "_law_mixes" dD ["_law_cell_here","_law_base","_law_many"]:=⟨f,fd,F,m,F.binds fun _ _ _ _ _ _ us hl=>by obtain ⟨a0,a1,a2,rfl⟩:=len_3 us hl; rfl⟩
theorem wt (F:j6 K "_law_plan" "_law_plan" cZ f fd) (m:mg "_law_plan"=some (.ref f)):Df K mg "_law_plan" cZ ["_law_cell_here","_law_most_here"]:=⟨f,fd,F,m,F.binds fun _ _ _ _ _ _ us hl=>by obtain ⟨a0,a1,rfl⟩:=len_2 us hl; rfl⟩
theorem wu (F:j6 K "_law_most" "_law_most" eS f fd) (m:mg "_law_most"=some (.ref f)):Df K mg "_law_most" eS ["_law_cell_here"]:=⟨f,fd,F,m,F.binds fun _ _ _ _ _ _ us hl=>by obtain ⟨a0,rfl⟩:=len_1 us hl; rfl⟩
theorem wx (F:j6 K "_law_ends" "_law_ends" c5 f fd) (m:mg "_law_ends"=some (.ref f)):Df K mg "_law_ends" c5 ["_law_plan_here"]:=⟨f,fd,F,m,F.binds fun _ _ _ _ _ _ us hl=>by obtain ⟨a0,rfl⟩:=len_1 us hl; rfl⟩
theorem wy (F:j6 K "_law_ways" "_law_ways" eT f fd) (m:mg "_law_ways"=some (.ref f)):Df K mg "_law_ways" eT ["_law_plan_here"]:=⟨f,fd,F,m,F.binds fun _ _ _ _ _ _ us hl=>by obtain ⟨a0,rfl⟩:=len_1 us hl; rfl⟩
theorem ue (F:j6 K "_law_power" "_law_power" cH f fd) (m:mg "_law_power"=some (.ref f)):Df K mg "_law_power" cH ["_law_bad","_law_good"]:=⟨f,fd,F,m,F.binds fun _ _ _ _ _ _ us hl=>by obtain ⟨a0,a1,rfl⟩:=len_2 us hl; rfl⟩
theorem uf (F:j6 K "_law_added" "_law_added" cI f fd) (m:mg "_law_added"=some (.ref f)):Df K mg "_law_added" cI ["_law_row","_law_other","_law_factor"]:=⟨f,fd,F,m,F.binds fun _ _ _ _ _ _ us hl=>by obtain ⟨a0,a1,a2,rfl⟩:=len_3 us hl; rfl⟩
theorem wz (F:j6 K "_law_word" "_law_word" dG f fd) (m:mg "_law_word"=some (.ref f)):Df K mg "_law_word" dG ["_law_e"]:=⟨f,fd,F,m,F.binds fun _ _ _ _ _ _ us hl=>by obtain ⟨a0,rfl⟩:=len_1 us hl; rfl⟩
theorem wA (F:j6 K "_law_rule" "_law_rule" dJ f fd) (m:mg "_law_rule"=some (.ref f)):Df K mg "_law_rule" dJ ["_law_last","_law_cell_here"]:=⟨f,fd,F,m,F.binds fun _ _ _ _ _ _ us hl=>by obtain ⟨a0,a1,rfl⟩:=len_2 us hl; rfl⟩
theorem wB (F:j6 K "_law_bits" "_law_bits" eU f fd) (m:mg "_law_bits"=some (.ref f)):Df K mg "_law_bits" eU ["_law_cell_here"]:=⟨f,fd,F,m,F.binds fun _ _ _ _ _ _ us hl=>by obtain ⟨a0,rfl⟩:=len_1 us hl; rfl⟩
theorem qd (F:j6 K "_law_is_plan" "_law_is_plan" bD f fd) (m:mg "_law_is_plan"=some (.ref f)):Df K mg "_law_is_plan" bD ["_law_found","_law_plan_here"]:=⟨f,fd,F,m,F.binds fun _ _ _ _ _ _ us hl=>by obtain ⟨a0,a1,rfl⟩:=len_2 us hl; rfl⟩
theorem wC (F:j6 K "_law_odds" "_law_odds" eV f fd) (m:mg "_law_odds"=some (.ref f)):Df K mg "_law_odds" eV ["_law_plan_here","_law_rule_here"]:=⟨f,fd,F,m,F.binds fun _ _ _ _ _ _ us hl=>by obtain ⟨a0,a1,rfl⟩:=len_2 us hl; rfl⟩
theorem ug (F:j6 K "_law_right" "_law_right" cJ f fd) (m:mg "_law_right"=some (.ref f)):Df K mg "_law_right" cJ ["_law_plan_here","_law_rule_here"]:=⟨f,fd,F,m,F.binds fun _ _ _ _ _ _ us hl=>by obtain ⟨a0,a1,rfl⟩:=len_2 us hl; rfl⟩
theorem qe (F:j6 K "_law_refused" "_law_refused" cN f fd) (m:mg "_law_refused"=some (.ref f)):Df K mg "_law_refused" cN ["_law_plan_here","_law_rule_here"]:=⟨f,fd,F,m,F.binds fun _ _ _ _ _ _ us hl=>by obtain ⟨a0,a1,rfl⟩:=len_2 us hl; rfl⟩
theorem K6 (F:j6 K "law" "law" kF f fd) (m:mg "law"=some (.ref f)):Df K mg "law" kF ["_law_script"]:=⟨f,fd,F,m,F.binds fun _ _ _ _ _ _ us hl=>by obtain ⟨a0,rfl⟩:=len_1 us hl; rfl⟩
theorem uh (F:j6 K "plan_from" "plan_from" cS f fd) (e:fd.code=.ref c) (m:mg "plan_from"=some (.ref f)):Ol K mg "plan_from" cS ["counts"] c:=⟨f,fd,F,e,m,F.binds fun _ _ _ _ _ _ us hl=>by obtain ⟨a0,rfl⟩:=len_1 us hl; rfl⟩
end
theorem all_mk {l:PySem.W.OpenLaw} {w:World} {K:PySem.W.Frag} {h:Heap} {mg:Str->Option Value} {fa:Addr} (X:K.In h) (G:h.Ns mainGlobals mg) (Yp:mg "law"=some (.ref fa))
  {f1 f2 f3 f4 f5 f6 f7 f8 f9 Yq Yr Ys Yt Yu Yv Yw Yx Yy Yz YA YB YC YD YE YF YG YH YI:Addr} {YJ YK YL YM YN YO YQ YR YS YT YU YV YW YX YY YZ Y0 Y1 Rb Rc Rf Rg Rh Ri Rj Rk Rl Rm Rn Ro Rp Rq Rr Rt Ru Rv Rx Ry Rz RA RB RC RD RE RF RG RH RI RJ RK RL RM RN RO RP NM:Option Addr} {P8 Fl Y2 Y3 Y4 Y5 Y6 Y7 Y8 RQ RR RS RT RU RV RW RX RY RZ R4 R5 R6 R7 R8 R9 Sa Sb Sd:Array (Option Value)} {Y9 Za Zb Zc VJ Zd Ze Zf Zg Zh Zi Zj Zk Zl Zm Zn Zo Zp Zq Zr Zs Zt Zu Zv Zw Zx Zy Zz ZA ZC ZD ZE ZF ZG ZH ZI ZJ ZK ZL ZM ZN ZO ZP ZQ ZR ZS ZT ZU ZV ZW ZX ZY ZZ Z0 Se Sf Sg Si Sj Sk Sl Sm Sn So Sq Sr Ss Su Sv Sw Sx Sy Sz SA SD SE SF SG SH SI SJ SK SM SN SQ SR SS SU SV SW SX SY S0 S4 S5 S6 S7 S8 S9 Ta Tb Tc Td Te Tf Tg Th Ti Tj Tn To Tp Tq Tr Ts Tt Tu Tw Tx Tz TB TC TF TH TJ TK TL TM TN TQ TR TU TV TX TY TZ T1 T2 T3 T4 T5 T6 T7 T8 T9 Ua Ub Uc Ud Ue Ug Uh Ui Uj Uk Ul Um Uo Up Uq Ur Us Ut NN NO NP NQ NR:Value}
  (q1:QF K "plan_from" cS f1 YJ YK P8 Y9 Za Zb Zc VJ Zd)
  (q2:QF K "goes_on" fV f2 YL YM Fl Ze Zf Zg Zh Zi Zj)
  (q3:QF K "come_to" e9 f3 YN YO Y2 Zk Zl Zm Zn Zo Zp)
  (q4:QF K "ends" kD f4 YQ YR Y3 Zq Zr Zs Zt Zu Zv)
  (q5:QF K "drawn_on" dB f5 YS YT Y4 Zw Zx Zy Zz ZA ZC)
  (q6:QF K "check_ends" cF f6 YU YV Y5 ZD ZE ZF ZG ZH ZI)
  (q7:QF K "plan_while" cG f7 YW YX Y6 ZJ ZK ZL ZM ZN ZO)
  (q8:QF K "led_to" gI f8 YY YZ Y7 ZP ZQ ZR ZS ZT ZU)
  (q9:QF K "after" jW f9 Y0 Y1 Y8 ZV ZW ZX ZY ZZ Z0)
  (q10:QF K "cut_short" bL Yq Rb Rc RQ Se Sf Sg Si Sj Sk)
  (q11:QF K "answers_at" cX Yr Rf Rg RR Sl Sm Sn So Sq Sr)
  (q12:QF K "_law_cell" eR Ys Rh Ri RS Ss Su Sv Sw Sx Sy)
  (q13:QF K "_law_digits" cY Yt Rj Rk RT Sz SA SD SE SF SG)
  (q14:QF K "_law_mixes" dD Yu Rl Rm RU SH SI SJ SK SM SN)
  (q15:QF K "_law_plan" cZ Yv Rn Ro RV SQ SR SS SU SV SW)
  (q16:QF K "_law_most" eS Yw Rp Rq RW SX SY S0 S4 S5 S6)
  (q17:QF K "_law_ends" c5 Yx Rr Rt RX S7 S8 S9 Ta Tb Tc)
  (q18:QF K "_law_ways" eT Yy Ru Rv RY Td Te Tf Tg Th Ti)
  (q19:QF K "_law_power" cH Yz Rx Ry RZ Tj Tn To Tp Tq Tr)
  (q20:QF K "_law_added" cI YA Rz RA R4 Ts Tt Tu Tw Tx Tz)
  (q21:QF K "_law_word" dG YB RB RC R5 TB TC TF TH TJ TK)
  (q22:QF K "_law_rule" dJ YC RD RE R6 TL TM TN TQ TR TU)
  (q23:QF K "_law_bits" eU YD RF RG R7 TV TX TY TZ T1 T2)
  (q24:QF K "_law_is_plan" bD YE RH RI R8 T3 T4 T5 T6 T7 T8)
  (q25:QF K "_law_odds" eV YF RJ RK R9 T9 Ua Ub Uc Ud Ue)
  (q26:QF K "_law_right" cJ YG RL RM Sa Ug Uh Ui Uj Uk Ul)
  (q27:QF K "_law_refused" cN YH RN RO Sb Um Uo Up Uq Ur Us)
  (q28:QF K "law" kF YI RP NM Sd Ut NN NO NP NQ NR)
  {ui:Tok} (aMOST_PLACES:PySem.W.nsIn K mainGlobals "MOST_PLACES"=some (some (.int 24 ui)))
  {EK:Tok} (aREFUSED:PySem.W.nsIn K mainGlobals "REFUSED"=some (some (.str "refused" EK)))
  {Hm:Tok} (aLET_BY:PySem.W.nsIn K mainGlobals "LET_BY"=some (some (.str "let by" Hm)))
  {yK:Tok} (aUNSETTLED:PySem.W.nsIn K mainGlobals "UNSETTLED"=some (some (.str "not settled" yK)))
  (z_len:PySem.W.nsIn K mainGlobals "len"=some none)
  (z_range:PySem.W.nsIn K mainGlobals "range"=some none)
  (z_isinstance:PySem.W.nsIn K mainGlobals "isinstance"=some none)
  (z_max:PySem.W.nsIn K mainGlobals "max"=some none)
  (z_min:PySem.W.nsIn K mainGlobals "min"=some none)
  (z_int:PySem.W.nsIn K mainGlobals "int"=some none)
  (z_bool:PySem.W.nsIn K mainGlobals "bool"=some none)
  (z_tuple:PySem.W.nsIn K mainGlobals "tuple"=some none)
  (z_list:PySem.W.nsIn K mainGlobals "list"=some none)
  (z_abs:PySem.W.nsIn K mainGlobals "abs"=some none)
  (z_str:PySem.W.nsIn K mainGlobals "str"=some none)
  (z_sum:PySem.W.nsIn K mainGlobals "sum"=some none)
  (z_sorted:PySem.W.nsIn K mainGlobals "sorted"=some none)
  (z_reversed:PySem.W.nsIn K mainGlobals "reversed"=some none)
  (z_enumerate:PySem.W.nsIn K mainGlobals "enumerate"=some none)
  (z_set:PySem.W.nsIn K mainGlobals "set"=some none)
  (z_all:PySem.W.nsIn K mainGlobals "all"=some none)
  (z_zip:PySem.W.nsIn K mainGlobals "zip"=some none)
  (z_any:PySem.W.nsIn K mainGlobals "any"=some none)
  {P1 c1:Addr} (lt:b7=[(P1,(⟨42,22,42,69⟩:Pos),("plan_from.<locals>.<lambda>":Str))])
  (ct:xh=[])
  (e1:VJ=.ref c1)
  (HD_plan_from:PySem.W.codeHdIn K c1 P1=true)
  (kn1:K.lookup P1=none)
  {EL:Addr} (aNoEnd:PySem.W.nsIn K mainGlobals "NoEnd"=some (some (.ref EL)))
  (qxNoEnd:PySem.W.excIn K EL VE "ValueError.__new__"=true)
  {cL:Addr} (aL:PySem.W.nsIn K mainGlobals "LotError"=some (some (.ref cL)))
  (zE:PySem.W.nsIn K mainGlobals "ValueError"=some none)
  (qc:xX K cL fk tf=true)
  :u9 K /\ ∃ fd:FuncData,(∀ (s:Shared) (v:Value),BindsTo s fd ⟨[v],[]⟩ [("_law_script",v)]) /\ ∀ base:Heap,K.In base->base.Ns mainGlobals mg->Gm mg base->lb l.prog w K mg base mF 8 fa fd ["_law_script"] (gW K 1 rO):=by
 have e:=Yp.symm.trans (PySem.W.mg_of X G q28.a)
 cases e
 have LO:u9 K:=⟨(fun p y q m=>by rw [lt] at m ⊢; simp only [List.mem_cons,List.not_mem_nil,or_false,Prod.mk.injEq] at m; rcases m with ⟨rfl,rfl,rfl⟩ <;> simp [List.lookup_cons, *]),(fun p y q m=>by rw [lt] at m; simp only [List.mem_cons,List.not_mem_nil,or_false,Prod.mk.injEq] at m; rcases m with ⟨rfl,rfl,rfl⟩ <;> first | exact ⟨kn1,_,HD_plan_from⟩)⟩
 have wD:Ol K mg "plan_from" cS ["counts"] c1:=uh (bE (st:=cS) q1.l q1.c q1.k) e1 (PySem.W.mg_of X G q1.a)
 have Bj:Df K mg "goes_on" fV ["plan","count"]:=yI (bE (st:=fV) q2.l q2.c q2.k) (PySem.W.mg_of X G q2.a)
 have Bk:Df K mg "come_to" e9 ["plan"]:=yJ (bE (st:=e9) q3.l q3.c q3.k) (PySem.W.mg_of X G q3.a)
 have K7:Df K mg "ends" kD ["plan"]:=Hk (bE (st:=kD) q4.l q4.c q4.k) (PySem.W.mg_of X G q4.a)
 have yL:Df K mg "drawn_on" dB ["plan"]:=wm (bE (st:=dB) q5.l q5.c q5.k) (PySem.W.mg_of X G q5.a)
 have mD:Df K mg "check_ends" cF ["plan","counts"]:=qI (bE (st:=cF) q6.l q6.c q6.k) (PySem.W.mg_of X G q6.a)
 have mE:Df K mg "plan_while" cG ["draws_on"]:=qJ (bE (st:=cG) q7.l q7.c q7.k) (PySem.W.mg_of X G q7.a)
 have wF:Df K mg "led_to" gI ["place"]:=Bi (bE (st:=gI) q8.l q8.c q8.k) (PySem.W.mg_of X G q8.a)
 have Hn:Df K mg "after" jW ["count","sign"]:=EJ (bE (st:=jW) q9.l q9.c q9.k) (PySem.W.mg_of X G q9.a)
 have n5:Df K mg "cut_short" bL ["plan","rule"]:=uc (bE (st:=bL) q10.l q10.c q10.k) (PySem.W.mg_of X G q10.a)
 have uj:Df K mg "answers_at" cX ["plan","rule"]:=qK (bE (st:=cX) q11.l q11.c q11.k) (PySem.W.mg_of X G q11.a)
 have yM:Df K mg "_law_cell" eR ["_law_script","_law_k"]:=wq (bE (st:=eR) q12.l q12.c q12.k) (PySem.W.mg_of X G q12.a)
 have uk:Df K mg "_law_digits" cY ["_law_cell_here","_law_base","_law_many"]:=qL (bE (st:=cY) q13.l q13.c q13.k) (PySem.W.mg_of X G q13.a)
 have wG:Df K mg "_law_mixes" dD ["_law_cell_here","_law_base","_law_many"]:=ud (bE (st:=dD) q14.l q14.c q14.k) (PySem.W.mg_of X G q14.a)
 have yN:Df K mg "_law_plan" cZ ["_law_cell_here","_law_most_here"]:=wt (bE (st:=cZ) q15.l q15.c q15.k) (PySem.W.mg_of X G q15.a)
 have yO:Df K mg "_law_most" eS ["_law_cell_here"]:=wu (bE (st:=eS) q16.l q16.c q16.k) (PySem.W.mg_of X G q16.a)
 have yP:Df K mg "_law_ends" c5 ["_law_plan_here"]:=wx (bE (st:=c5) q17.l q17.c q17.k) (PySem.W.mg_of X G q17.a)
 have yQ:Df K mg "_law_ways" eT ["_law_plan_here"]:=wy (bE (st:=eT) q18.l q18.c q18.k) (PySem.W.mg_of X G q18.a)
 have wH:Df K mg "_law_power" cH ["_law_bad","_law_good"]:=ue (bE (st:=cH) q19.l q19.c q19.k) (PySem.W.mg_of X G q19.a)
 have wI:Df K mg "_law_added" cI ["_law_row","_law_other","_law_factor"]:=uf (bE (st:=cI) q20.l q20.c q20.k) (PySem.W.mg_of X G q20.a)
 have yR:Df K mg "_law_word" dG ["_law_e"]:=wz (bE (st:=dG) q21.l q21.c q21.k) (PySem.W.mg_of X G q21.a)
 have yS:Df K mg "_law_rule" dJ ["_law_last","_law_cell_here"]:=wA (bE (st:=dJ) q22.l q22.c q22.k) (PySem.W.mg_of X G q22.a)
 have yT:Df K mg "_law_bits" eU ["_law_cell_here"]:=wB (bE (st:=eU) q23.l q23.c q23.k) (PySem.W.mg_of X G q23.a)
 have qM:Df K mg "_law_is_plan" bD ["_law_found","_law_plan_here"]:=qd (bE (st:=bD) q24.l q24.c q24.k) (PySem.W.mg_of X G q24.a)
 have yU:Df K mg "_law_odds" eV ["_law_plan_here","_law_rule_here"]:=wC (bE (st:=eV) q25.l q25.c q25.k) (PySem.W.mg_of X G q25.a)
 have wJ:Df K mg "_law_right" cJ ["_law_plan_here","_law_rule_here"]:=ug (bE (st:=cJ) q26.l q26.c q26.k) (PySem.W.mg_of X G q26.a)
 have qN:Df K mg "_law_refused" cN ["_law_plan_here","_law_rule_here"]:=qe (bE (st:=cN) q27.l q27.c q27.k) (PySem.W.mg_of X G q27.a)
 have VL:Df K mg "law" kF ["_law_script"]:=K6 (bE (st:=kF) q28.l q28.c q28.k) (PySem.W.mg_of X G q28.a)
 have i8:Cn mg "MOST_PLACES" (.int 24):=⟨_,PySem.W.mg_of X G aMOST_PLACES,⟨_,rfl⟩⟩
 have d8:Cn mg "REFUSED" (.str "refused"):=⟨_,PySem.W.mg_of X G aREFUSED,⟨_,rfl⟩⟩
 have p9:Cn mg "LET_BY" (.str "let by"):=⟨_,PySem.W.mg_of X G aLET_BY,⟨_,rfl⟩⟩
 have cK:Cn mg "UNSETTLED" (.str "not settled"):=⟨_,PySem.W.mg_of X G aUNSETTLED,⟨_,rfl⟩⟩
 have B:Bs mg:=⟨PySem.W.mg_none_of X G z_len,PySem.W.mg_none_of X G z_range,PySem.W.mg_none_of X G z_isinstance,PySem.W.mg_none_of X G z_max,PySem.W.mg_none_of X G z_min,PySem.W.mg_none_of X G z_int,PySem.W.mg_none_of X G z_bool,PySem.W.mg_none_of X G z_tuple,PySem.W.mg_none_of X G z_list,PySem.W.mg_none_of X G z_abs,PySem.W.mg_none_of X G z_str,PySem.W.mg_none_of X G z_sum,PySem.W.mg_none_of X G z_sorted,PySem.W.mg_none_of X G z_reversed,PySem.W.mg_none_of X G z_enumerate,PySem.W.mg_none_of X G z_set,PySem.W.mg_none_of X G z_all,PySem.W.mg_none_of X G z_zip,PySem.W.mg_none_of X G z_any⟩
 have um:(P1,(⟨42,22,42,69⟩:Pos),("plan_from.<locals>.<lambda>":Str))∈b7:=by rw [lt]; simp
 have mC:∃ C tl,Na K mg "NoEnd" C VE tl "ValueError.__new__":=⟨_,Kp (PySem.W.mg_of X G aNoEnd) qxNoEnd⟩
 have mL:=PySem.W.mg_of X G aL
 have Q9:=PySem.W.mg_none_of X G zE
 have CT:=GD X G qc
 have Ra:=GF qc
 have CE:=GH X G qc
 refine ⟨LO,PySem.W.fnOf "law" "law" (jw kF) (cz kF) (ai kF) .none NN NO NP NM NQ NR,fun s v=>.of_eq rfl,fun base _ _ BB=>?_⟩
 have iF:=rQ (P:=l.prog) (w:=w) (base:=base) wF B
 have i9:Oh l.prog w K mg 4 2 2 "plan_while" "draws_on" cV:=⟨let ⟨f,_,F,m,_⟩:=mE; ⟨f,m,F.kp⟩,fun base f c q G _ _ C=>by have iF:=rQ (P:=l.prog) (w:=w) (base:=base) wF B; exact qD (P:=l.prog) (w:=w) (base:=base) mE B i8 C iF⟩
 have fe:=t5 (P:=l.prog) (w:=w) (base:=base) wD B HD_plan_from um BB i9
 have nH:=yG (P:=l.prog) (w:=w) (base:=base) Bj B
 have nG:=yH (P:=l.prog) (w:=w) (base:=base) Bk B iF
 have eW:=Hj (P:=l.prog) (w:=w) (base:=base) K7 B nG nH
 have c6:=v7 (P:=l.prog) (w:=w) (base:=base) yL B
 have ja:=p8 (P:=l.prog) (w:=w) (base:=base) mD B mC eW
 have jX:=qE (P:=l.prog) (w:=w) (base:=base) mD B eW
 have oD:=EH (P:=l.prog) (w:=w) (base:=base) Hn B
 have d9:=qF (P:=l.prog) (w:=w) (base:=base) uj B d8 p9 cK oD c6 eW
 have j1:=qG (P:=l.prog) (w:=w) (base:=base) n5 B d8 cK d9 ja c6 eW fe
 have kH:=t6 (P:=l.prog) (w:=w) (base:=base) n5 B d8 cK d9 jX c6 eW fe
 have iG:=v8 (P:=l.prog) (w:=w) (base:=base) yM B
 have jY:=qH (P:=l.prog) (w:=w) (base:=base) uk B
 have ff:=t7 (P:=l.prog) (w:=w) (base:=base) wG B
 have lN:=v9 (P:=l.prog) (w:=w) (base:=base) yN B jY ff
 have lM:=wa (P:=l.prog) (w:=w) (base:=base) yO B
 have c7:=wb (P:=l.prog) (w:=w) (base:=base) yP B
 have lK:=wc (P:=l.prog) (w:=w) (base:=base) yQ B
 have kG:=t8 (P:=l.prog) (w:=w) (base:=base) wH B
 have fi:=t9 (P:=l.prog) (w:=w) (base:=base) wI B
 have kI:=ua (P:=l.prog) (w:=w) (base:=base) yR B CT Q9 Ra
 have lO:=we (P:=l.prog) (w:=w) (base:=base) yS B
 have lL:=wg (P:=l.prog) (w:=w) (base:=base) yT B ff
 have jb:=qa (P:=l.prog) (w:=w) (base:=base) qM B
 have jZ:=wj (P:=l.prog) (w:=w) (base:=base) yU B fi c7 kG lK
 have kJ:=ub (P:=l.prog) (w:=w) (base:=base) wJ B fi c7 jb jZ kH
 have jc:=qb (P:=l.prog) (w:=w) (base:=base) qN B mL CE kI j1
 exact K5 (P:=l.prog) (w:=w) (base:=base) (bE (st:=kF) q28.l q28.c q28.k) B lL iG c7 lM lN jc kJ lO
theorem walk {l:PySem.W.OpenLaw} {q:Program} {loose:List Str} {XP:(Str->Option Value)->Heap->Prop} {YP:World->Heap->Prop} {d:DefRec} {K:Params->PySem.W.Frag} (hn:l.most=some 63) (Md:d.params.defaults=[])
  (hY:∀ (w:World) (h:Heap),YP w h->(K w.params).In h /\ ∀ p y q,(p,y,q)∈b7->h.get? p=some (PySem.W.tabObj #[]))
  (F:∀ (w:World) (mg:Str->Option Value) (fa:Addr) (h:Heap),(K w.params).In h->h.Ns mainGlobals mg->mg d.name=some (.ref fa)->
   u9 (K w.params) /\ ∃ fd:FuncData,(∀ (s:Shared) (u:Value),BindsTo s fd ⟨[u],[]⟩ [("_law_script",u)]) /\ ∀ base:Heap,(K w.params).In base->base.Ns mainGlobals mg->Gm mg base->lb l.prog w (K w.params) mg base mF 8 fa fd ["_law_script"] (gW (K w.params) 1 rO)):
  PySem.W.WalkO q loose XP YP l.row.toRowW d [] (fun f vs=>PySem.call f vs):=
 L2.DD (n:=63) (k:=8) (x:="_law_script") (sp:=fun w=>gW (K w.params) 1 rO) hn (by decide) Md ⟨rfl,by decide,by decide⟩ hY F (fun _ _ a ns hl hS hT=>⟨rfl,[],[.list (ns.map PyData.int)],.bool true,⟨fun _ z=>by simp at z,(fun _ _ m=>by rw [show xh=[] from rfl] at m; cases m),hT⟩,by rw [Cr]; exact .cons (.lst hS (cj.ints ns)) .nil,EF ns hl,fun v H' s h=>by cases h; exact ⟨rfl,s⟩⟩)
end aK
open PySem PySem.W PyProof.Rows
set_option tactic.hygienic true
set_option maxRecDepth 100000 in
set_option maxHeartbeats 0 in
theorem PySem.Challenge.cw_lotdraw_k52_cut_short_same_odds_holds : PySem.Challenge.rw_lotdraw_k52_cut_short_same_odds.Holds := by
 w_on; o_law
 refine PySem.W.holds_open (q:=aK.uv) (loose:=[]) (Xt:=aK.Uu) (XP:=XL aK.uv []) (Yf:=Hook.obs (kmHook aK.Lz aK.LA aK.Bx aK.LB)) (Ya:=Hook.val (kmHook aK.Lz aK.LA aK.Bx aK.LB)) (YP:=Hook.says (kmHook aK.Lz aK.LA aK.Bx aK.LB)) (N:=8656) (Hd.zX ?h1 rfl (fun _=>rfl) aK.EZ aK.E3) (Hook.of _) (Hook.keeps _) (fun s e=>xl_of s (Bool.and_eq_true_iff.mp e).1) XL.keeps (by rfl) (by rfl) (by rfl) (fun s e=>recFacts_of (Bool.and_eq_true_iff.mp e).2) rfl (by first | assumption | decide +kernel) (by decide +kernel) ⟨rfl,rfl,rfl,rfl,rfl,by decide +kernel⟩ ?hw ?hc
 case h1=>kernel_rfl
 case hw=>w_witness2
 k_fill
 refine aK.walk (l:=PySem.Challenge.rw_lotdraw_k52_cut_short_same_odds) rfl rfl (fun w h Y=>⟨PySem.W.km_in_of Y,fun p y q m=>PySem.W.km_tabs_of Y p (L2.Kf rfl m)⟩) ?F
 case F=>
  intro w mg fa h KX G Me
  refine' aK.all_mk KX G Me ?q1 ?q2 ?q3 ?q4 ?q5 ?q6 ?q7 ?q8 ?q9 ?q10 ?q11 ?q12 ?q13 ?q14 ?q15 ?q16 ?q17 ?q18 ?q19 ?q20 ?q21 ?q22 ?q23 ?q24 ?q25 ?q26 ?q27 ?q28 ?aMOST_PLACES ?aREFUSED ?aLET_BY ?aUNSETTLED ?z_len ?z_range ?z_isinstance ?z_max ?z_min ?z_int ?z_bool ?z_tuple ?z_list ?z_abs ?z_str ?z_sum ?z_sorted ?z_reversed ?z_enumerate ?z_set ?z_all ?z_zip ?z_any ?lt ?ct ?e1 ?HD_plan_from ?kn1 ?aNoEnd ?qxNoEnd ?aL ?zE ?qc
  (case q1=>refine' ⟨?x,?y,?z,?t⟩; (case x=>k_is); (case y=>k_is); (case z=>k_is); (case t=>k_is))
  (case q2=>refine' ⟨?x,?y,?z,?t⟩; (case x=>k_is); (case y=>k_is); (case z=>k_is); (case t=>k_is))
  (case q3=>refine' ⟨?x,?y,?z,?t⟩; (case x=>k_is); (case y=>k_is); (case z=>k_is); (case t=>k_is))
  (case q4=>refine' ⟨?x,?y,?z,?t⟩; (case x=>k_is); (case y=>k_is); (case z=>k_is); (case t=>k_is))
  (case q5=>refine' ⟨?x,?y,?z,?t⟩; (case x=>k_is); (case y=>k_is); (case z=>k_is); (case t=>k_is))
  (case q6=>refine' ⟨?x,?y,?z,?t⟩; (case x=>k_is); (case y=>k_is); (case z=>k_is); (case t=>k_is))
  (case q7=>refine' ⟨?x,?y,?z,?t⟩; (case x=>k_is); (case y=>k_is); (case z=>k_is); (case t=>k_is))
  (case q8=>refine' ⟨?x,?y,?z,?t⟩; (case x=>k_is); (case y=>k_is); (case z=>k_is); (case t=>k_is))
  (case q9=>refine' ⟨?x,?y,?z,?t⟩; (case x=>k_is); (case y=>k_is); (case z=>k_is); (case t=>k_is))
  (case q10=>refine' ⟨?x,?y,?z,?t⟩; (case x=>k_is); (case y=>k_is); (case z=>k_is); (case t=>k_is))
  (case q11=>refine' ⟨?x,?y,?z,?t⟩; (case x=>k_is); (case y=>k_is); (case z=>k_is); (case t=>k_is))
  (case q12=>refine' ⟨?x,?y,?z,?t⟩; (case x=>k_is); (case y=>k_is); (case z=>k_is); (case t=>k_is))
  (case q13=>refine' ⟨?x,?y,?z,?t⟩; (case x=>k_is); (case y=>k_is); (case z=>k_is); (case t=>k_is))
  (case q14=>refine' ⟨?x,?y,?z,?t⟩; (case x=>k_is); (case y=>k_is); (case z=>k_is); (case t=>k_is))
  (case q15=>refine' ⟨?x,?y,?z,?t⟩; (case x=>k_is); (case y=>k_is); (case z=>k_is); (case t=>k_is))
  (case q16=>refine' ⟨?x,?y,?z,?t⟩; (case x=>k_is); (case y=>k_is); (case z=>k_is); (case t=>k_is))
  (case q17=>refine' ⟨?x,?y,?z,?t⟩; (case x=>k_is); (case y=>k_is); (case z=>k_is); (case t=>k_is))
  (case q18=>refine' ⟨?x,?y,?z,?t⟩; (case x=>k_is); (case y=>k_is); (case z=>k_is); (case t=>k_is))
  (case q19=>refine' ⟨?x,?y,?z,?t⟩; (case x=>k_is); (case y=>k_is); (case z=>k_is); (case t=>k_is))
  (case q20=>refine' ⟨?x,?y,?z,?t⟩; (case x=>k_is); (case y=>k_is); (case z=>k_is); (case t=>k_is))
  (case q21=>refine' ⟨?x,?y,?z,?t⟩; (case x=>k_is); (case y=>k_is); (case z=>k_is); (case t=>k_is))
  (case q22=>refine' ⟨?x,?y,?z,?t⟩; (case x=>k_is); (case y=>k_is); (case z=>k_is); (case t=>k_is))
  (case q23=>refine' ⟨?x,?y,?z,?t⟩; (case x=>k_is); (case y=>k_is); (case z=>k_is); (case t=>k_is))
  (case q24=>refine' ⟨?x,?y,?z,?t⟩; (case x=>k_is); (case y=>k_is); (case z=>k_is); (case t=>k_is))
  (case q25=>refine' ⟨?x,?y,?z,?t⟩; (case x=>k_is); (case y=>k_is); (case z=>k_is); (case t=>k_is))
  (case q26=>refine' ⟨?x,?y,?z,?t⟩; (case x=>k_is); (case y=>k_is); (case z=>k_is); (case t=>k_is))
  (case q27=>refine' ⟨?x,?y,?z,?t⟩; (case x=>k_is); (case y=>k_is); (case z=>k_is); (case t=>k_is))
  (case q28=>refine' ⟨?x,?y,?z,?t⟩; (case x=>k_is); (case y=>k_is); (case z=>k_is); (case t=>k_is))
  (case aMOST_PLACES=>k_is)
  (case aREFUSED=>k_is)
  (case aLET_BY=>k_is)
  (case aUNSETTLED=>k_is)
  (case z_len=>kernel_rfl)
  (case z_range=>kernel_rfl)
  (case z_isinstance=>kernel_rfl)
  (case z_max=>kernel_rfl)
  (case z_min=>kernel_rfl)
  (case z_int=>kernel_rfl)
  (case z_bool=>kernel_rfl)
  (case z_tuple=>kernel_rfl)
  (case z_list=>kernel_rfl)
  (case z_abs=>kernel_rfl)
  (case z_str=>kernel_rfl)
  (case z_sum=>kernel_rfl)
  (case z_sorted=>kernel_rfl)
  (case z_reversed=>kernel_rfl)
  (case z_enumerate=>kernel_rfl)
  (case z_set=>kernel_rfl)
  (case z_all=>kernel_rfl)
  (case z_zip=>kernel_rfl)
  (case z_any=>kernel_rfl)
  (case lt=>rfl)
  (case ct=>rfl)
  (case e1=>rfl)
  (case HD_plan_from=>kernel_rfl)
  (case kn1=>kernel_rfl)
  (case aNoEnd=>k_is)
  (case qxNoEnd=>kernel_rfl)
  (case aL=>k_is)
  (case zE=>kernel_rfl)
  (case qc=>kernel_rfl)
end
