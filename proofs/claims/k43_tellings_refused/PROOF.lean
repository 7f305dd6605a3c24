import PyProof.Rows.All
import Wide.All
import OpenK.AllK
import Wide.FinOn
import Lean
import PyProof.EqAt
import PyProof.EqKinds
import PyProof.TupleCall
import PySem.Challenge.RW_lotdraw_k43_tellings_refused
set_option Elab.async false
set_option linter.all false
set_option maxRecDepth 100000
set_option tactic.hygienic false
noncomputable section
namespace L2
open PySem
def iQ (s:Stmt):Arguments:=match s with
 | .FunctionDef _ a _ _ _ _ _ _ _ _=>a
 | _=>{ posonlyargs:=[],args:=[],vararg:=none,kwonlyargs:=[],kw_defaults:=[],kwarg:=none,defaults:=[] }
def cD (s:Stmt):List Stmt:=match s with
 | .FunctionDef _ _ b _ _ _ _ _ _ _=>b
 | _=>[]
def ao (s:Stmt):Scope:=match s with
 | .FunctionDef _ _ _ _ _ _ sc _ _ _=>sc
 | _=>{ kind:=.function,names:=[],isGenerator:=false,isCoroutine:=false }
end L2
namespace Hd
open PySem PySem.W
def wb (tb:String->Option Builtin) (p:Program) (w:World) (m:Nat) (ann:Option Value):Nat->SharedT->Thread->Option SharedT
 | 0,_,_=>none
 | n + 1,s,t=>match through t with
   | true=>some s
   | false=>match stepOk m ann t with
     | false=>none
     | true=>match stepT (denote tb) p w s t with
       | some (s',t')=>wb tb p w m ann n s' t'
       | none=>none
theorem yA {tb:String->Option Builtin} {p:Program} {w:World} {m:Nat} {ann:Option Value}:∀ {n:Nat} {s s':SharedT} {t:Thread},wb tb p w m ann n s t=some s'->topRun tb p w m ann n s.abs t=some s'.abs
 | 0,_,_,_,h=>by cases h
 | n + 1,s,s',t,h=>by
   unfold wb at h
   unfold topRun
   cases he:through t with
   | true=>rw [he] at h; cases h; rfl
   | false=>
     rw [he] at h
     cases hk:stepOk m ann t with
     | false=>rw [hk] at h; cases h
     | true=>
       rw [hk] at h
       cases hs:stepT (denote tb) p w s t with
       | none=>rw [hs] at h; cases h
       | some r=>obtain ⟨s2,t2⟩:=r; rw [hs] at h; rw [stepT_spec hs]; exact yA h
def Bq (P:Params):BT:=(.node (boot_o_0 P) (.node (boot_o_1 P) (.node (boot_o_3 P) (.node (boot_o_7 P) .nil .nil) .nil) (.node (boot_o_5 P) (.node (boot_o_9 P) .nil .nil) .nil)) (.node (boot_o_2 P) (.node (boot_o_4 P) (.node (boot_o_8 P) .nil .nil) .nil) (.node (boot_o_6 P) (.node (boot_o_10 P) .nil .nil) .nil)))
theorem boot_abs (P:Params):boot_heap P=absHeap (Bq P) 11 (boot_heap P).life:=by kernel_rfl
def t5 (w:World) (os:OsState):SharedT:=⟨Bq w.params,11,(boot_heap w.params).life,Array.mk [],boot_drawn,boot_toks,os⟩
theorem EL (w:World) (os:OsState):(t5 w os).abs=⟨boot_heap w.params,Array.mk [],boot_drawn,boot_toks,os⟩:=by
 show Shared.mk (absHeap (Bq w.params) 11 (boot_heap w.params).life) _ _ _ _=_
 rw [<- boot_abs]; rfl
theorem zK (P:Params):((boot_heap P).isNs mainGlobals,(boot_heap P).objs.size,(boot_heap P).nsMap mainGlobals "__annotations__")=(true,11,some (.ref 6)):=by kernel_rfl
theorem zL {p q:Program} {loose:List Str} {Xt:Shared->Bool} {α:Type} {Yf:Shared->α} {Ya:World->α} {N:Nat} (e:opening p=plainProg p.main.scope.names) (hN:Nat.ble 600 N=true) (f:∀ s,fenceModules? p s=some s)
  (one:∀ (w:World) (os:OsState),(wb treeTable p w 11 (some (.ref 6)) N (t5 w os) (topStub p)).map (fun s=>((staticsOk (importedModules p.main.body) (boot_heap w.params) s.abs.heap && namesBound p s.abs.heap && gensDone s.abs && laidKept (boot_heap w.params) s.abs.heap),Yf s.abs))=some (true,Ya w))
  (two:∀ (w:World) (os:OsState),(wb treeTable p w 11 (some (.ref 6)) N (t5 w os) (topStub p)).map (fun s=>openSeen q loose (importedModules p.main.body) Xt true s.abs)=some (openGood q loose)):
  LeftO p q loose Xt Yf Ya N:=fun w=>by
 obtain ⟨⟨h,gs,d,k,os⟩,e1,e2⟩:=Option.map_eq_some_iff.mp (boot_open e hN f w)
 obtain ⟨rfl,rfl,rfl,rfl⟩:h=boot_heap w.params /\ gs=Array.mk [] /\ d=boot_drawn /\ k=boot_toks:=by simpa using e2
 obtain ⟨s,r,l⟩:=Option.map_eq_some_iff.mp (one w os)
 obtain ⟨l1,l3⟩:_ /\ _:=by simpa only [Prod.mk.injEq] using l
 have l2:openSeen q loose (importedModules p.main.body) Xt true s.abs=openGood q loose:=by
  have:=two w os
  rw [r] at this
  exact Option.some.inj this
 obtain ⟨z1,z2,z3⟩:_ /\ _ /\ _:=by simpa only [Prod.mk.injEq] using zK w.params
 have r':=yA r
 rw [EL] at r'
 have t:topFrom treeTable p w N ⟨boot_heap w.params,Array.mk [],boot_drawn,boot_toks,os⟩=some s.abs:=by
  unfold topFrom
  dsimp only
  rw [z1,z2,z3,r']
  show (match staticsOk (importedModules p.main.body) (boot_heap w.params) s.abs.heap && namesBound p s.abs.heap && gensDone s.abs && laidKept (boot_heap w.params) s.abs.heap with | true=>_ | false=>_)=_
  rw [l1]
 unfold openEnds
 rw [e1]
 show (topFrom treeTable p w N ⟨boot_heap w.params,Array.mk [],boot_drawn,boot_toks,os⟩).map _=_
 rw [t,Option.map_some,l2,l3]
end Hd
namespace aG
open PySem PySem.W L2
def top (i:Nat):Stmt:=PySem.Challenge.pw_lotdraw_k43_tellings_refused.main.body.getD i (.Pass ⟨0,0,0,0⟩)
def t6:Program:={ PySem.Challenge.pw_lotdraw_k43_tellings_refused with main:={ PySem.Challenge.pw_lotdraw_k43_tellings_refused.main with body:=[top 1,top 2,top 3,top 4,top 5,top 6,top 7,top 8,top 9,top 10,top 11,top 12,top 13,top 14,top 15,top 16,top 18,top 19,top 20,top 21,top 22,top 23,top 24,top 25,top 26,top 27,top 28,top 30,top 31,top 32,top 33,top 34,top 35,top 36,top 38,top 40,top 41,top 42,top 43,top 45,top 46,top 47,top 48,top 49,top 51,top 52,top 53,top 54,top 55,top 56,top 57,top 58,top 59,top 60] } }
abbrev ent (P:Params) (k:Str) (n:Nat) (v:Value):DictEntry:=⟨PyData.keyHash P k,.str k n,v⟩
abbrev wc (P:Params):=fun x0 x1 x2 x3 x4 x5 x6=>(⟨(.type "dict"),none,(.dict #[(ent P "__module__" x0 (.str "lotdraw.errors" 187)),(ent P "__firstlineno__" x1 (.int x2 x3)),(ent P "__static_attributes__" x4 (.ref x5)),(ent P "__doc__" x6 .none)] 2),#[]⟩:Obj)
abbrev ml (P:Params):=fun x0 x1 x2 x3 x4 x5=>(⟨(.type "type"),none,(.cls ⟨x0,[(.ref 24)],[(.ref x1),(.ref 24),(.type "ValueError"),(.type "Exception"),(.type "BaseException"),(.type "object")],x2,x0,true,[],[],false,none,false⟩),#[(some (.ref x3)),none,(some (.str x0 x4)),(some (.str x0 x5)),(some (.builtin "ValueError.__new__")),(some (.bool true))]⟩:Obj)
abbrev iw (P:Params):=fun x0 x1 x2 x3 x4 x5 x6 x7 x8 x9 N9 VG VH=>(⟨(.type "code"),none,(.fields #[(.str x0 x1),(.str x0 x2),(.str "/claim/cut.py" x3),(.int x4 0),(.int x5 0),(.int 0 0),(.int 0 0),(.int 3 0),(.ref x6),(.bool true),(.int 181 0),(.ref x7),.none,(.ref x8),(.ref x9),(.ref N9),(.int VG 0),(.int x4 0),(.str "/claim/cut.py" VH)]),#[]⟩:Obj)
abbrev jo (P:Params):=fun x0 x1 x2 x3 x4=>(⟨(.type "function"),none,.func (fnOf x0 x0 (iQ (top x1)) (cD (top x1)) (ao (top x1)) .none .none .none (.str x2 x3) none (.ref x4) .none),#[]⟩:Obj)
abbrev zM (P:Params):=fun x0 x1 x2 x3 x4 x5 x6 x7 x8 x9 N9=>(⟨(.type "code"),none,(.fields #[(.str x0 x1),(.str x0 x2),(.str "/claim/cut.py" x3),(.int x4 0),(.int x5 0),(.int 0 0),(.int 0 0),(.int 3 0),(.ref x6),(.bool true),(.int 181 0),(.ref x7),.none,.none,.none,(.ref x8),(.int x9 0),(.int x4 0),(.str "/claim/cut.py" N9)]),#[]⟩:Obj)
def Lb:Params->Frag:=fun P=>(nat_lit 2,⟨.none,none,(.dict #[] 0),#[]⟩) ::
 (nat_lit 3,⟨(.type "dict"),none,(.dict #[(ent P "__name__" 165 (.str "law_lotdraw_k43_tellings_refused" 661)),(ent P "__doc__" 166 .none),(ent P "__package__" 167 .none),(ent P "__loader__" 168 (.builtin "__main__.__loader__#opaque")),(ent P "__spec__" 169 .none),(ent P "__annotations__" 170 (.ref 6)),(ent P "__builtins__" 171 (.ref 4)),(ent P "__file__" 173 (.str "/claim/cut.py" 172)),(ent P "__cached__" 174 .none),(ent P "LotError" 206 (.ref 24)),(ent P "NoNumber" 222 (.ref 37)),(ent P "NoPlan" 238 (.ref 49)),(ent P "TooLong" 254 (.ref 61)),(ent P "NoText" 270 (.ref 73)),(ent P "NoEnd" 286 (.ref 85)),(ent P "TooMany" 302 (.ref 97)),(ent P "NoRow" 318 (.ref 109)),(ent P "NoTelling" 334 (.ref 121)),(ent P "NoLot" 350 (.ref 133)),(ent P "NotOnly" 366 (.ref 145)),(ent P "Only" 382 (.ref 157)),(ent P "NoShares" 398 (.ref 169)),(ent P "NoDeed" 414 (.ref 181)),(ent P "NoName" 430 (.ref 193)),(ent P "NoDraw" 446 (.ref 205)),(ent P "LONG" 450 (.int 4000 449)),(ent P "WINDOW" 452 (.int 240 451)),(ent P "SHED" 454 (.int 120 453)),(ent P "frac" 463 (.ref 214)),(ent P "plus" 475 (.ref 221)),(ent P "minus" 483 (.ref 228)),(ent P "times" 493 (.ref 235)),(ent P "over" 501 (.ref 242)),(ent P "power" 512 (.ref 249)),(ent P "greatest_divisor" 522 (.ref 256)),(ent P "leap" 535 (.ref 263)),(ent P "goes_on" 546 (.ref 270)),(ent P "come_to" 552 (.ref 275)),(ent P "ends" 558 (.ref 280)),(ent P "drawn_on" 564 (.ref 285)),(ent P "led_to" 570 (.ref 290)),(ent P "after" 578 (.ref 297)),(ent P "NOUGHT" 581 (.ref 298)),(ent P "ways_from" 595 (.ref 305)),(ent P "MOST_ROWS" 599 (.int 4000 598)),(ent P "rows_of" 605 (.ref 310)),(ent P "end_of" 615 (.ref 317)),(ent P "rows_behind" 625 (.ref 324)),(ent P "averaged" 633 (.ref 329)),(ent P "left_within" 639 (.ref 334)),(ent P "left_in" 645 (.ref 339)),(ent P "by_end" 651 (.ref 344)),(ent P "sum_of_all" 660 (.ref 351)),(ent P "_law_cell" 670 (.ref 358)),(ent P "_law_digits" 681 (.ref 365)),(ent P "_law_mixes" 693 (.ref 372)),(ent P "_law_plan" 699 (.ref 377)),(ent P "_law_most" 706 (.ref 384)),(ent P "_law_ends" 712 (.ref 389)),(ent P "_law_ways" 725 (.ref 396)),(ent P "_law_word" 731 (.ref 401)),(ent P "_law_asked" 742 (.ref 408)),(ent P "law" 748 (.ref 413))] 63),#[]⟩) ::
 (nat_lit 23,⟨(.type "dict"),none,(.dict #[(ent P "__module__" 196 (.str "lotdraw.errors" 187)),(ent P "__firstlineno__" 200 (.int 2 199)),(ent P "__static_attributes__" 201 (.ref 22)),(ent P "__weakref__" 203 (.ref 25)),(ent P "__doc__" 204 .none)] 3),#[]⟩) ::
 (nat_lit 24,⟨(.type "type"),none,(.cls ⟨"LotError",[(.type "ValueError")],[(.ref 24),(.type "ValueError"),(.type "Exception"),(.type "BaseException"),(.type "object")],23,"LotError",true,[],[(.ref 37),(.ref 49),(.ref 61),(.ref 73),(.ref 85),(.ref 97),(.ref 109),(.ref 121),(.ref 133),(.ref 145),(.ref 157),(.ref 169),(.ref 181),(.ref 193),(.ref 205)],false,none,false⟩),#[(some (.ref 15)),none,(some (.str "LotError" 189)),(some (.str "LotError" 197)),(some (.builtin "ValueError.__new__")),(some (.bool true))]⟩) ::
 (nat_lit 25,⟨(.type "getset_descriptor"),none,(.fields #[(.str "__weakref__" 202),(.ref 24),(.builtin "ExceptionGroup.__weakref__"),.none]),#[]⟩) ::
 (nat_lit 36,wc P 214 218 4 217 219 35 220) ::
 (nat_lit 37,ml P "NoNumber" 37 36 28 207 215) ::
 (nat_lit 48,wc P 230 234 6 233 235 47 236) ::
 (nat_lit 49,ml P "NoPlan" 49 48 40 223 231) ::
 (nat_lit 60,wc P 246 250 8 249 251 59 252) ::
 (nat_lit 61,ml P "TooLong" 61 60 52 239 247) ::
 (nat_lit 72,wc P 262 266 10 265 267 71 268) ::
 (nat_lit 73,ml P "NoText" 73 72 64 255 263) ::
 (nat_lit 84,wc P 278 282 12 281 283 83 284) ::
 (nat_lit 85,ml P "NoEnd" 85 84 76 271 279) ::
 (nat_lit 96,wc P 294 298 14 297 299 95 300) ::
 (nat_lit 97,ml P "TooMany" 97 96 88 287 295) ::
 (nat_lit 108,wc P 310 314 16 313 315 107 316) ::
 (nat_lit 109,ml P "NoRow" 109 108 100 303 311) ::
 (nat_lit 120,wc P 326 330 18 329 331 119 332) ::
 (nat_lit 121,ml P "NoTelling" 121 120 112 319 327) ::
 (nat_lit 132,wc P 342 346 20 345 347 131 348) ::
 (nat_lit 133,ml P "NoLot" 133 132 124 335 343) ::
 (nat_lit 144,wc P 358 362 22 361 363 143 364) ::
 (nat_lit 145,ml P "NotOnly" 145 144 136 351 359) ::
 (nat_lit 156,wc P 374 378 24 377 379 155 380) ::
 (nat_lit 157,ml P "Only" 157 156 148 367 375) ::
 (nat_lit 168,wc P 390 394 26 393 395 167 396) ::
 (nat_lit 169,ml P "NoShares" 169 168 160 383 391) ::
 (nat_lit 180,wc P 406 410 28 409 411 179 412) ::
 (nat_lit 181,ml P "NoDeed" 181 180 172 399 407) ::
 (nat_lit 192,wc P 422 426 30 425 427 191 428) ::
 (nat_lit 193,ml P "NoName" 193 192 184 415 423) ::
 (nat_lit 204,wc P 438 442 32 441 443 203 444) ::
 (nat_lit 205,ml P "NoDraw" 205 204 196 431 439) ::
 (nat_lit 213,iw P "frac" 455 456 457 38 2 208 209 210 211 212 461 462) ::
 (nat_lit 214,jo P "frac" 21 "lotdraw.fracs" 447 213) ::
 (nat_lit 220,iw P "plus" 464 465 466 45 2 215 216 217 218 219 473 474) ::
 (nat_lit 221,jo P "plus" 22 "lotdraw.fracs" 447 220) ::
 (nat_lit 227,iw P "minus" 476 477 478 51 2 222 223 224 225 226 481 482) ::
 (nat_lit 228,jo P "minus" 23 "lotdraw.fracs" 447 227) ::
 (nat_lit 234,iw P "times" 484 485 486 53 2 229 230 231 232 233 491 492) ::
 (nat_lit 235,jo P "times" 24 "lotdraw.fracs" 447 234) ::
 (nat_lit 241,iw P "over" 494 495 496 57 2 236 237 238 239 240 499 500) ::
 (nat_lit 242,jo P "over" 25 "lotdraw.fracs" 447 241) ::
 (nat_lit 248,iw P "power" 502 503 504 59 2 243 244 245 246 247 510 511) ::
 (nat_lit 249,jo P "power" 26 "lotdraw.fracs" 447 248) ::
 (nat_lit 255,iw P "greatest_divisor" 513 514 515 66 2 250 251 252 253 254 520 521) ::
 (nat_lit 256,jo P "greatest_divisor" 27 "lotdraw.fracs" 447 255) ::
 (nat_lit 262,iw P "leap" 523 524 525 78 2 257 258 259 260 261 533 534) ::
 (nat_lit 263,jo P "leap" 28 "lotdraw.fracs" 447 262) ::
 (nat_lit 269,iw P "goes_on" 538 539 540 89 2 264 265 266 267 268 544 545) ::
 (nat_lit 270,jo P "goes_on" 30 "lotdraw.plans" 536 269) ::
 (nat_lit 274,zM P "come_to" 547 548 549 92 1 271 272 273 550 551) ::
 (nat_lit 275,jo P "come_to" 31 "lotdraw.plans" 536 274) ::
 (nat_lit 279,zM P "ends" 553 554 555 97 1 276 277 278 556 557) ::
 (nat_lit 280,jo P "ends" 32 "lotdraw.plans" 536 279) ::
 (nat_lit 284,zM P "drawn_on" 559 560 561 99 1 281 282 283 562 563) ::
 (nat_lit 285,jo P "drawn_on" 33 "lotdraw.plans" 536 284) ::
 (nat_lit 289,zM P "led_to" 565 566 567 104 1 286 287 288 568 569) ::
 (nat_lit 290,jo P "led_to" 34 "lotdraw.plans" 536 289) ::
 (nat_lit 296,iw P "after" 571 572 573 106 2 291 292 293 294 295 576 577) ::
 (nat_lit 297,jo P "after" 35 "lotdraw.plans" 536 296) ::
 (nat_lit 298,⟨(.type "tuple"),none,(.seq #[(.int 0 579),(.int 1 580)] 0),#[]⟩) ::
 (nat_lit 304,iw P "ways_from" 584 585 586 112 2 299 300 301 302 303 593 594) ::
 (nat_lit 305,jo P "ways_from" 38 "lotdraw.ways" 582 304) ::
 (nat_lit 309,zM P "rows_of" 600 601 602 121 1 306 307 308 603 604) ::
 (nat_lit 310,jo P "rows_of" 41 "lotdraw.rows" 596 309) ::
 (nat_lit 316,iw P "end_of" 606 607 608 126 2 311 312 313 314 315 613 614) ::
 (nat_lit 317,jo P "end_of" 42 "lotdraw.rows" 596 316) ::
 (nat_lit 323,iw P "rows_behind" 616 617 618 135 3 318 319 320 321 322 623 624) ::
 (nat_lit 324,jo P "rows_behind" 43 "lotdraw.rows" 596 323) ::
 (nat_lit 328,zM P "averaged" 628 629 630 142 2 325 326 327 631 632) ::
 (nat_lit 329,jo P "averaged" 45 "lotdraw.tellings" 626 328) ::
 (nat_lit 333,zM P "left_within" 634 635 636 144 2 330 331 332 637 638) ::
 (nat_lit 334,jo P "left_within" 46 "lotdraw.tellings" 626 333) ::
 (nat_lit 338,zM P "left_in" 640 641 642 146 1 335 336 337 643 644) ::
 (nat_lit 339,jo P "left_in" 47 "lotdraw.tellings" 626 338) ::
 (nat_lit 343,zM P "by_end" 646 647 648 149 2 340 341 342 649 650) ::
 (nat_lit 344,jo P "by_end" 48 "lotdraw.tellings" 626 343) ::
 (nat_lit 350,iw P "sum_of_all" 652 653 654 160 1 345 346 347 348 349 658 659) ::
 (nat_lit 351,jo P "sum_of_all" 49 "lotdraw.tellings" 626 350) ::
 (nat_lit 357,iw P "_law_cell" 663 664 665 166 2 352 353 354 355 356 668 669) ::
 (nat_lit 358,jo P "_law_cell" 51 "law_lotdraw_k43_tellings_refused" 661 357) ::
 (nat_lit 364,iw P "_law_digits" 671 672 673 170 3 359 360 361 362 363 679 680) ::
 (nat_lit 365,jo P "_law_digits" 52 "law_lotdraw_k43_tellings_refused" 661 364) ::
 (nat_lit 371,iw P "_law_mixes" 682 683 684 176 3 366 367 368 369 370 691 692) ::
 (nat_lit 372,jo P "_law_mixes" 53 "law_lotdraw_k43_tellings_refused" 661 371) ::
 (nat_lit 376,zM P "_law_plan" 694 695 696 182 2 373 374 375 697 698) ::
 (nat_lit 377,jo P "_law_plan" 54 "law_lotdraw_k43_tellings_refused" 661 376) ::
 (nat_lit 383,iw P "_law_most" 700 701 702 200 1 378 379 380 381 382 704 705) ::
 (nat_lit 384,jo P "_law_most" 55 "law_lotdraw_k43_tellings_refused" 661 383) ::
 (nat_lit 388,zM P "_law_ends" 707 708 709 204 1 385 386 387 710 711) ::
 (nat_lit 389,jo P "_law_ends" 56 "law_lotdraw_k43_tellings_refused" 661 388) ::
 (nat_lit 395,iw P "_law_ways" 713 714 715 213 1 390 391 392 393 394 723 724) ::
 (nat_lit 396,jo P "_law_ways" 57 "law_lotdraw_k43_tellings_refused" 661 395) ::
 (nat_lit 400,zM P "_law_word" 726 727 728 221 1 397 398 399 729 730) ::
 (nat_lit 401,jo P "_law_word" 58 "law_lotdraw_k43_tellings_refused" 661 400) ::
 (nat_lit 407,iw P "_law_asked" 732 733 734 232 3 402 403 404 405 406 740 741) ::
 (nat_lit 408,jo P "_law_asked" 59 "law_lotdraw_k43_tellings_refused" 661 407) ::
 (nat_lit 412,zM P "law" 743 744 745 241 1 409 410 411 746 747) ::
 (nat_lit 413,jo P "law" 60 "law_lotdraw_k43_tellings_refused" 661 412) ::
 []
def Lc:List Addr:=[2,3,23,24,25,36,37,48,49,60,61,72,73,84,85,96,97,108,109,120,121,132,133,144,145,156,157,168,169,180,181,192,193,204,205,213,214,220,221,227,228,234,235,241,242,248,249,255,256,262,263,269,270,274,275,279,280,284,285,289,290,296,297,298,304,305,309,310,316,317,323,324,328,329,333,334,338,339,343,344,350,351,357,358,364,365,371,372,376,377,383,384,388,389,395,396,400,401,407,408,412,413]
set_option maxHeartbeats 0
theorem Br (P:Params):Lc=(Lb P).map (·.1):=by kernel_rfl
theorem EM (w:World) (os:OsState):(Hd.wb treeTable PySem.Challenge.pw_lotdraw_k43_tellings_refused w 11 (some (.ref 6)) 9068 (Hd.t5 w os) (topStub PySem.Challenge.pw_lotdraw_k43_tellings_refused)).map (fun s=>((staticsOk (importedModules PySem.Challenge.pw_lotdraw_k43_tellings_refused.main.body) (boot_heap w.params) s.abs.heap && namesBound PySem.Challenge.pw_lotdraw_k43_tellings_refused s.abs.heap && gensDone s.abs && laidKept (boot_heap w.params) s.abs.heap),Lc.map s.abs.heap.get?))=some (true,(Lb w.params).map fun p=>some p.2):=by kernel_rfl
abbrev Ut:Shared->Bool:=fun s=>xlAt t6 [] s && recOk (RowW.records (OpenRow.toRowW (OpenLaw.row PySem.Challenge.rw_lotdraw_k43_tellings_refused))) s
theorem EN (w:World) (os:OsState):(Hd.wb treeTable PySem.Challenge.pw_lotdraw_k43_tellings_refused w 11 (some (.ref 6)) 9068 (Hd.t5 w os) (topStub PySem.Challenge.pw_lotdraw_k43_tellings_refused)).map (fun s=>openSeen t6 [] (importedModules PySem.Challenge.pw_lotdraw_k43_tellings_refused.main.body) Ut true s.abs)=some (openGood t6 []):=by kernel_rfl
end aG
set_option maxHeartbeats 4000000
namespace L2
open PySem PySem.Spec PyProof.Rows
abbrev Key:=Sum Int Str
def qK:Key->Value->Bool
 | .inl k,v=>Value.isInt k v
 | .inr x,v=>Value.isStrOf x v
def Oa (w:World):Key->Int
 | .inl k=>hashInt k
 | .inr x=>hashStr w x
theorem cn:∀ {k:Key} {v:Value},qK k v=true->(∃ i t,k=Sum.inl i /\ v=Value.int i t) \/ (∃ x t,k=Sum.inr x /\ v=Value.str x t)
 | .inl i,v,h=>by
   obtain ⟨t,e⟩:=Value.isInt_shape (k:=i) (v:=v) h
   exact .inl ⟨i,t,rfl,e⟩
 | .inr x,v,h=>by
   obtain ⟨t,e⟩:=Value.isStrOf_shape (x:=x) (v:=v) h
   exact .inr ⟨x,t,rfl,e⟩
theorem zN (i:Int) (t:Tok):qK (.inl i) (.int i t)=true:=by simp [qK,Value.isInt]
theorem zO (x:Str) (t:Tok):qK (.inr x) (.str x t)=true:=by simp [qK,Value.isStrOf]
theorem H8 (a b:Int):decide ((Sum.inl a:Key)=Sum.inl b)=(a == b):=by
 by_cases e:a=b
 ·subst e; simp
 ·have h:¬ (Sum.inl a:Key)=Sum.inl b:=fun q=>e (Sum.inl.inj q)
  rw [decide_eq_false h]
  exact (beq_eq_false_iff_ne.mpr e).symm
theorem Ia (a b:Str):decide ((Sum.inr a:Key)=Sum.inr b)=decide (a=b):=by
 by_cases e:a=b
 ·subst e; simp
 ·have h:¬ (Sum.inr a:Key)=Sum.inr b:=fun q=>e (Sum.inr.inj q)
  rw [decide_eq_false h,decide_eq_false e]
theorem Ib (a:Int) (b:Str):decide ((Sum.inl a:Key)=Sum.inr b)=false:=decide_eq_false (fun q=>nomatch q)
theorem Ic (a:Str) (b:Int):decide ((Sum.inr a:Key)=Sum.inl b)=false:=decide_eq_false (fun q=>nomatch q)
def cE (prog:Program) (w:World):PySem.KeyKind prog w Key where
 is:=qK
 hash:=Oa w
 inj:=fun v a b ha hb=>by
  rcases cn ha with ⟨i,t,rfl,rfl⟩ | ⟨x,t,rfl,rfl⟩
  ·rcases cn hb with ⟨j,u,rfl,e⟩ | ⟨y,u,rfl,e⟩
   ·injection e with e1 _; rw [e1]
   ·exact nomatch e
  ·rcases cn hb with ⟨j,u,rfl,e⟩ | ⟨y,u,rfl,e⟩
   ·exact nomatch e
   ·injection e with e1 _; rw [e1]
 byValue:=fun k v h=>by
  rcases cn h with ⟨i,t,rfl,rfl⟩ | ⟨x,t,rfl,rfl⟩ <;> rfl
 pyHash:=fun hv h=>by
  rcases cn hv with ⟨i,t,rfl,rfl⟩ | ⟨x,t,rfl,rfl⟩
  ·exact wpAny_pyHash_int h
  ·exact wpAny_pyHash_str h
 eqBool:=fun hu hv h=>by
  rcases cn hu with ⟨i,t,rfl,rfl⟩ | ⟨x,t,rfl,rfl⟩
  ·rcases cn hv with ⟨j,u,rfl,rfl⟩ | ⟨y,u,rfl,rfl⟩
   ·rw [H8] at h; exact wpAny_eqBool_int h
   ·rw [Ib] at h; exact SeqAt.EqAt.int_str i t y u _ _ _ _ h
  ·rcases cn hv with ⟨j,u,rfl,rfl⟩ | ⟨y,u,rfl,rfl⟩
   ·rw [Ic] at h; exact SeqAt.EqAt.str_int x t j u _ _ _ _ h
   ·rw [Ia] at h; exact wpAny_eqBool_str h
 «strs»:=fun k x t v h=>by
  rcases cn h with ⟨i,u,rfl,e⟩ | ⟨y,u,rfl,e⟩
  ·exact nomatch e
  ·injection e with e1 _
   subst e1
   cases v <;> rfl
theorem t7 (prog:Program) (w:World) (i:Int) (t:Tok):(cE prog w).is (.inl i) (.int i t)=true:=zN i t
theorem t8 (prog:Program) (w:World) (x:Str) (t:Tok):(cE prog w).is (.inr x) (.str x t)=true:=zO x t
inductive V where
 | gU | bl (b:Bool) | int (i:Int) | str (x:Str) | Ld (b:Array UInt8) | Le (b:UInt64) | ref (a:Addr) | ty (n:String)
 deriving DecidableEq
def RelV:V->Value->Prop
 | .gU,u=>u=Value.none
 | .bl b,u=>u=Value.bool b
 | .int i,u=>∃ t,u=Value.int i t
 | .str x,u=>∃ t,u=Value.str x t
 | .Ld b,u=>∃ t,u=Value.bytes b t
 | .Le b,u=>∃ t,u=Value.float b t
 | .ref a,u=>u=Value.ref a
 | .ty n,u=>u=Value.type n
abbrev bf:List V->List Value->Prop:=Paired RelV
theorem bf.length {xs:List V} {us:List Value} (r:bf xs us):xs.length=us.length:=Paired.length r
theorem bf.get:∀ {xs:List V} {us:List Value} {i:Nat} {x:V},bf xs us->xs[i]?=some x->∃ u,us[i]?=some u /\ RelV x u
 | _,_,_,_,.nil,e=>by simp at e
 | _,_,0,_,.cons r _,e=>by simp at e; subst e; exact ⟨_,rfl,r⟩
 | _,_,i + 1,x,.cons _ t,e=>by
   obtain ⟨u,h1,h2⟩:=bf.get (i:=i) (x:=x) t (by simpa using e)
   exact ⟨u,by simpa using h1,h2⟩
theorem bf.append:∀ {xs ys:List V} {us ws:List Value},bf xs us->bf ys ws->bf (xs ++ ys) (us ++ ws)
 | _,_,_,_,.nil,s=>s
 | _,_,_,_,.cons r t,s=>.cons r (bf.append t s)
theorem bf.take:∀ {xs:List V} {us:List Value} (n:Nat),bf xs us->bf (xs.take n) (us.take n)
 | _,_,0,_=>.nil
 | _,_,_ + 1,.nil=>.nil
 | _,_,n + 1,.cons r t=>.cons r (bf.take n t)
theorem bf.drop:∀ {xs:List V} {us:List Value} (n:Nat),bf xs us->bf (xs.drop n) (us.drop n)
 | _,_,0,r=>r
 | _,_,_ + 1,.nil=>.nil
 | _,_,n + 1,.cons _ t=>bf.drop n t
def nF:Option V->Option Value->Prop
 | some v,some u=>RelV v u
 | none,none=>True
 | _,_=>False
def KV {κ:Type}:List (κ×V)->List (κ×Value)->Prop:=Paired fun (p:κ×V) (q:κ×Value)=>p.1=q.1 /\ RelV p.2 q.2
def kV:Key->V
 | .inl i=>.int i
 | .inr x=>.str x
inductive HO where
  | lst (xs:List V)
  | tup (xs:List V)
  | dK (aK:List (Key×V)) | dT (aK:List (List Key×V))
  | set (S:Int->Bool) (n:Nat)
  | ins (C dx:Addr) (fs:List (Str×V))
  | own (x:Addr)
  | xd (fs:List (Str×V))
  | met (f x:Addr)
  | NA (lo hi:Int)
  | qe (o:Obj) (u:HO)
  | G4 (ps:Array Value)
  | ext (φ:Heap->Prop)
abbrev Hp:=Addr->Option HO
def upd (H:Hp) (a:Addr) (o:HO):Hp:=fun b=>if b=a then some o else H b
theorem bw {H:Hp} {a:Addr} {o:HO}:upd H a o a=some o:=by unfold upd; rw [if_pos rfl]
theorem aI {H:Hp} {a b:Addr} {o:HO} (h:b≠a):upd H a o b=H b:=by unfold upd; rw [if_neg h]
theorem bo {H:Hp} {a b:Addr} {o:HO} (h:H a=some o) (h':H b=none):a≠b:=by
 intro e; subst e; rw [h] at h'; cases h'
def cx (H:Hp) (b:Addr) (xs:List V):Prop:=H b=some (.tup xs) \/ ∃ ob,H b=some (.qe ob (.tup xs))
theorem cx.ne {H:Hp} {a b:Addr} {o:HO} {xs:List V} (t:cx H b xs) (n:b≠a):cx (upd H a o) b xs:=by
 rcases t with t | ⟨ob,t⟩
 ·exact .inl (by rw [aI n]; exact t)
 ·exact .inr ⟨ob,by rw [aI n]; exact t⟩
theorem cx.new {H:Hp} {a b:Addr} {o:HO} {xs:List V} (t:cx H b xs) (n:H a=none):cx (upd H a o) b xs:=t.ne fun z=>by
 subst z
 rcases t with t | ⟨ob,t⟩ <;> rw [n] at t <;> cases t
theorem cx.dT {H:Hp} {a b:Addr} {o:HO} {xs:List V} {aK:List (List Key×V)} (t:cx H b xs) (e:H a=some (.dT aK)):cx (upd H a o) b xs:=t.ne fun z=>by
 subst z
 rcases t with t | ⟨ob,t⟩ <;> rw [e] at t <;> cases t
section
variable (P:Program) (w:World)
def cF (H:Hp) (h:Heap) (a:Addr):HO->Prop
 | .lst xs=>xs.length<=sizeLine /\ ∃ (its:List Value) (n:Nat),bf xs its /\ h.get? a=some { cls:=.type "list",data:=.seq its.toArray n }
 | .tup xs=>xs.length<=sizeLine /\ ∃ its:List Value,bf xs its /\ IsTup h a its.toArray
 | .dK aK=>aK.length<=sizeLine /\ (a == sysModules)=false /\ ∃ vs,KV aK vs /\ h.DictOf (cE P w) a vs
 | .dT aK=>aK.length<=sizeLine /\ (a == sysModules)=false /\ ∃ xs:List (List Key×Addr×Value),
   Paired (fun (p:List Key×V) (q:List Key×Addr×Value)=>p.1=q.1 /\ cx H q.2.1 (p.1.map kV) /\ RelV p.2 q.2.2) aK xs /\
   ∃ o es ep,h.get? a=some o /\ o.ExactDict /\ o.data=.dict es ep /\ es.toList=xs.map (entryOfKey (tupleKind (cE P w))) /\ (xs.map (·.1)).Nodup
 | .set S n=>h.SetOf (intKind P w) a S n
 | .ins C dx fs=>H dx=some (.own a) /\ fs.length<=1000 /\ dx≠a /\ h.get? a=some (PySem.W.instObj C dx) /\
   ∃ mA,h.Ns1 dx mA /\ (∀ f,nF (fs.lookup f) (mA f)) /\ PySem.Within mA (fs.map (·.1))
 | .own _=>∃ o,h.get? a=some o
 | .xd fs=>∃ mA,h.Ns1 a mA /\ ∀ f,nF (fs.lookup f) (mA f)
 | .NA lo hi=>∃ t u v,h.get? a=some { cls:=.type "range",data:=.fields #[.int lo t,.int hi u,.int 1 v] }
 | .qe o u=>h.get? a=some o /\ cF H h a u
 | .G4 ps=>h.get? a=some { cls:=.none,data:=.fields ps }
 | .met f x=>h.get? a=some (PySem.W.methodObj (.ref f) (.ref x))
 | .ext φ=>φ h /\ (∃ o,h.get? a=some o) /\ ∀ h1 h2:Heap,φ h1->(∀ o,h1.get? a=some o->h2.get? a=some o)->φ h2
def ka (H:Hp) (h:Heap):Prop:=∀ a o,H a=some o->cF P w H h a o
end
section
variable {P:Program} {w:World} {H H':Hp} {h h':Heap} {a:Addr} {o:HO}
theorem cF.lt (x:cF P w H h a o):a < h.objs.size:=by
 cases o with
 | lst xs=>obtain ⟨_,_,_,_,e⟩:=x; exact Heap.lt_size e
 | tup xs=>obtain ⟨_,_,_,p⟩:=x; exact p.lt
 | dK aK=>obtain ⟨_,_,_,_,o,_,_,e,_⟩:=x; exact Heap.lt_size e
 | dT aK=>obtain ⟨_,_,_,_,o,_,_,e,_⟩:=x; exact Heap.lt_size e
 | set S n=>obtain ⟨o,_,_,_,e,_⟩:=x; exact Heap.lt_size e
 | ins C dx fs=>obtain ⟨_,_,_,e,_⟩:=x; exact Heap.lt_size e
 | own y=>obtain ⟨_,e⟩:=x; exact Heap.lt_size e
 | xd fs=>obtain ⟨_,⟨_,_,_,e,_⟩,_⟩:=x; exact Heap.lt_size e
 | NA lo hi=>obtain ⟨_,_,_,e⟩:=x; exact Heap.lt_size e
 | qe ob u=>obtain ⟨e,_⟩:=x; exact Heap.lt_size e
 | G4 ps=>exact Heap.lt_size (show h.get? a=some _ from x)
 | met f y=>exact Heap.lt_size (show h.get? a=some _ from x)
 | ext φ=>obtain ⟨_,⟨_,e⟩,_⟩:=x; exact Heap.lt_size e
theorem Paired.Ie {α β:Type} {F G:α->β->Prop}:∀ {Lf:List α} {Lg:List β},Paired F Lf Lg->(∀ a b,F a b->G a b)->Paired G Lf Lg
 | _,_,.nil,_=>.nil
 | _,_,.cons r t,f=>.cons (f _ _ r) (Paired.Ie t f)
theorem cF.nG (x:cF P w H h a o) (k:∀ b u,(b=a \/ H b=some (.own a))->h.get? b=some u->h'.get? b=some u)
  (ho:∀ b,H b=some (.own a)->H' b=some (.own a)) (ht:∀ b xs,cx H b xs->cx H' b xs):cF P w H' h' a o:=by
 induction o with
 | lst xs=>obtain ⟨z,its,n,r,e⟩:=x; exact ⟨z,its,n,r,k _ _ (.inl rfl) e⟩
 | tup xs=>obtain ⟨z,its,r,ob,e,c⟩:=x; exact ⟨z,its,r,ob,k _ _ (.inl rfl) e,c⟩
 | dK aK=>obtain ⟨z,y,vs,r,ob,es,ep,e,c⟩:=x; exact ⟨z,y,vs,r,ob,es,ep,k _ _ (.inl rfl) e,c⟩
 | dT aK=>
   obtain ⟨z,y,xs,r,ob,es,ep,e,c⟩:=x
   exact ⟨z,y,xs,Paired.Ie r fun p q z=>⟨z.1,ht _ _ z.2.1,z.2.2⟩,ob,es,ep,k _ _ (.inl rfl) e,c⟩
 | set S n=>obtain ⟨ob,es,ep,t,e,c⟩:=x; exact ⟨ob,es,ep,t,k _ _ (.inl rfl) e,c⟩
 | ins C dx fs=>
   obtain ⟨d,z,ne,e,mA,⟨od,es,ep,e2,c⟩,r⟩:=x
   exact ⟨ho _ d,z,ne,k _ _ (.inl rfl) e,mA,⟨od,es,ep,k _ _ (.inr d) e2,c⟩,r⟩
 | own y=>obtain ⟨ob,e⟩:=x; exact ⟨ob,k _ _ (.inl rfl) e⟩
 | xd fs=>obtain ⟨mA,⟨od,es,ep,e,c⟩,r⟩:=x; exact ⟨mA,⟨od,es,ep,k _ _ (.inl rfl) e,c⟩,r⟩
 | NA lo hi=>obtain ⟨t,u,v,e⟩:=x; exact ⟨t,u,v,k _ _ (.inl rfl) e⟩
 | qe ob u ih=>obtain ⟨e,q⟩:=x; exact ⟨k _ _ (.inl rfl) e,ih q⟩
 | G4 ps=>
   have e:h.get? a=some { cls:=.none,data:=.fields ps }:=x
   show h'.get? a=some { cls:=.none,data:=.fields ps }
   exact k a _ (.inl rfl) e
 | met f y=>
   have e:h.get? a=some (PySem.W.methodObj (.ref f) (.ref y)):=x
   show h'.get? a=some (PySem.W.methodObj (.ref f) (.ref y))
   exact k a _ (.inl rfl) e
 | ext φ=>obtain ⟨p,⟨o,e⟩,st⟩:=x; exact ⟨st _ _ p fun o q=>k _ _ (.inl rfl) q,⟨o,k _ _ (.inl rfl) e⟩,st⟩
theorem ka.lt (x:ka P w H h) (e:H a=some o):a < h.objs.size:=(x a o e).lt
theorem ka.fresh (x:ka P w H h) (e:h.objs.size<=a):H a=none:=by
 cases q:H a with
 | none=>rfl
 | some u=>exact absurd (Nat.lt_of_lt_of_le (x.lt q) e) (Nat.lt_irrefl _)
theorem ka.kept (x:ka P w H h) (k:∀ b u,h.get? b=some u->h'.get? b=some u):ka P w H h':=fun a o e=>
 (x a o e).nG (fun b u _ q=>k b u q) (fun _ q=>q) fun _ _ q=>q
theorem ka.laid (x:ka P w H h) (k:∀ b u,h.get? b=some u->h'.get? b=some u) (hp:h.objs.size<=a) (new:cF P w (upd H a o) h' a o):ka P w (upd H a o) h':=fun b u e=>by
 have hn:=x.fresh hp
 by_cases hb:b=a
 ·subst hb; rw [bw] at e; cases e; exact new
 ·rw [aI hb] at e
  exact (x b u e).nG (fun c v _ q=>k c v q) (fun c q=>by rw [aI (bo q hn)]; exact q) fun c xs q=>q.new hn
end
def Rd (H:Hp) (a:Addr) (u:HO):Prop:=H a=some u \/ ∃ o,H a=some (.qe o u)
theorem Rd.ok {P:Program} {w:World} {H:Hp} {h:Heap} {a:Addr} {u:HO} (r:Rd H a u) (x:ka P w H h):cF P w H h a u:=by
 rcases r with r | ⟨o,r⟩
 ·exact x a u r
 ·obtain ⟨_,q⟩:=x a _ r
  exact q
def Lh:Option HO->Prop
 | some (.lst _)=>True
 | some (.dK _)=>True
 | some (.dT _)=>True
 | some (.set _ _)=>True
 | some (.ins _ _ _)=>True
 | some (.ext _)=>True
 | _=>False
section
variable {P:Program} {w:World} {H:Hp} {h h':Heap} {x e:Addr} {o':HO}
theorem ka.write (ok:ka P w H h) (mu:Lh (H x)) (he:e=x \/ H e=some (.own x)) (k:∀ b u,b≠e->h.get? b=some u->h'.get? b=some u) (zP:∃ u,h'.get? e=some u)
  (new:cF P w (upd H x o') h' x o'):ka P w (upd H x o') h':=fun b u q=>by
 have Li:∀ c y,H c=some (.own y)->c≠x:=fun c y r z=>by subst z; rw [r] at mu; exact mu
 have VI:∀ c xs,H c=some (.tup xs)->c≠x:=fun c xs r z=>by subst z; rw [r] at mu; exact mu
 by_cases hb:b=x
 ·subst hb; rw [bw] at q; cases q; exact new
 ·rw [aI hb] at q
  by_cases Ig:b=e
  ·have q':H b=some (.own x):=by
    rcases he with z | z
    ·exact absurd (Ig.trans z) hb
    ·rw [Ig]; exact z
   rw [q] at q'; cases q'
   obtain ⟨v,hv⟩:=zP
   exact ⟨v,by rw [Ig]; exact hv⟩
  ·refine (ok b u q).nG (fun c v hc r=>k c v ?_ r) (fun c r=>by rw [aI (Li c b r)]; exact r) fun c xs r=>r.ne fun z=>by
    subst z
    rcases r with r | ⟨ob,r⟩ <;> rw [r] at mu <;> exact mu
   rcases hc with rfl | hc
   ·exact Ig
   ·rintro rfl
    rcases he with z | z
    ·exact Li c b hc z
    ·rw [hc] at z; cases z; exact hb rfl
end
structure Un (fs ex:List Addr) (H H':Hp) (h h':Heap):Prop where
 keep:∀ b o,h.get? b=some o->H b=none->b∉fs->b∉ex->h'.get? b=some o
 slot:∀ b o,h.get? b=some o->H b=none->b∈fs->b∉ex->∃ sl,h'.get? b=some { o with slots:=sl }
 free:∀ b o,h.get? b=some o->H b=none->b∉ex->H' b=none
 there:∀ b o,h.get? b=some o->b∉ex->∃ o',h'.get? b=some o'
 mm:∀ b xs,H b=some (.tup xs)->H' b=some (.tup xs)
 lu:∀ b o u,H b=some (.qe o u)->H' b=some (.qe o u)
 mn:∀ b ps,H b=some (.G4 ps)->∃ more,H' b=some (.G4 (ps ++ more))
section
variable {fs VJ ex Zy:List Addr} {H H1 H2:Hp} {h h1 h2 h':Heap} {a x e:Addr} {o:HO}
theorem Un.any (u:Un fs ex H H1 h h1) {b:Addr} {ob:Obj} (q:h.get? b=some ob) (n:H b=none) (hx:b∉ex):∃ sl,h1.get? b=some { ob with slots:=sl }:=by
 by_cases hb:b∈fs
 ·exact u.slot b ob q n hb hx
 ·exact ⟨ob.slots,u.keep b ob q n hb hx⟩
theorem Un.kept (k:∀ b u,h.get? b=some u->h'.get? b=some u):Un fs ex H H h h':=
 ⟨fun b ob q _ _ _=>k b ob q,fun b ob q _ _ _=>⟨ob.slots,k b ob q⟩,fun _ _ _ n _=>n,fun b ob q _=>⟨ob,k b ob q⟩,fun _ _ q=>q,fun _ _ _ q=>q,fun _ ps q=>⟨#[],by rw [q]; simp⟩⟩
theorem Un.refl:Un fs ex H H h h:=Un.kept fun _ _ q=>q
theorem Un.laid (k:∀ b u,h.get? b=some u->h'.get? b=some u) (hp:h.objs.size<=a) (hn:H a=none):Un fs ex H (upd H a o) h h' where
 keep:=fun b u q _ _ _=>k b u q
 slot:=fun b u q _ _ _=>⟨u.slots,k b u q⟩
 free:=fun b u q n _=>by rw [aI (Nat.ne_of_lt (Nat.lt_of_lt_of_le (Heap.lt_size q) hp))]; exact n
 there:=fun b u q _=>⟨u,k b u q⟩
 mm:=fun b xs q=>by rw [aI (bo q hn)]; exact q
 lu:=fun b u xs q=>by rw [aI (bo q hn)]; exact q
 mn:=fun b ps q=>⟨#[],by rw [aI (bo q hn),q]; simp⟩
theorem Un.write (mu:Lh (H x)) (he:e=x \/ H e=some (.own x)) (k:∀ b u,b≠e->h.get? b=some u->h'.get? b=some u) (zP:∃ u,h'.get? e=some u):Un fs ex H (upd H x o) h h':=by
 have hx:∀ b,H b=none->b≠x:=fun b n z=>by subst z; rw [n] at mu; exact mu
 have hb:∀ b,H b=none->b≠e:=fun b n z=>by
  subst z
  rcases he with r | r
  ·exact hx b n r
  ·rw [n] at r; cases r
 have hm:∀ b u,H b=some u->¬ Lh (some u)->b≠x:=fun b u q nm z=>by subst z; rw [q] at mu; exact nm mu
 refine ⟨fun b u q n _ _=>k b u (hb b n) q,fun b u q n _ _=>⟨u.slots,k b u (hb b n) q⟩,fun b u q n _=>by rw [aI (hx b n)]; exact n,fun b u q _=>?_,
  fun b xs q=>by rw [aI (hm b _ q fun z=>z)]; exact q,fun b u xs q=>by rw [aI (hm b _ q fun z=>z)]; exact q,fun b ps q=>⟨#[],by rw [aI (hm b _ q fun z=>z),q]; simp⟩⟩
 by_cases Ig:b=e
 ·subst Ig; exact zP
 ·exact ⟨u,k b u Ig q⟩
end
def NB (h:Heap) (H:Hp):List Addr:=(List.range h.objs.size).filter fun a=>(H a).isSome
def rM (h:Heap) (H:Hp):Heap:=PySem.W.hideAll h (NB h H)
theorem zQ (h:Heap) (H:Hp):(rM h H).objs.size=h.objs.size:=PySem.W.hideAll_size _ _
theorem Bt {h:Heap} {H:Hp} {b:Addr} {o:Obj} (e:h.get? b=some o) (n:H b=none):(rM h H).get? b=some o:=
 PySem.W.hideAll_get _ e fun hm=>by
  have q:(H b).isSome=true:=(List.mem_filter.mp hm).2
  rw [n] at q; simp at q
theorem EO {h:Heap} {H:Hp} {b:Addr} {o:Obj} (e:(rM h H).get? b=some o):h.get? b=some o /\ H b=none:=by
 have e':h.get? b=some o:=PySem.W.of_hideAll (NB h H) e
 refine ⟨e',?_⟩
 cases q:H b with
 | none=>rfl
 | some x=>
   have hm:b∈NB h H:=List.mem_filter.mpr ⟨List.mem_range.mpr (Heap.lt_size e'),by simp [q]⟩
   have z:(rM h H).get? b=none:=PySem.W.hideAll_none (NB h H) hm
   rw [z] at e; cases e
def ER (g h:Heap) (L:Addr):List (Addr×Obj):=(List.range h.objs.size).filterMap fun a=>if a=L \/ (g.get? a).isSome=true then none else (h.get? a).map fun o=>(a,o)
def rest (g h:Heap) (L d:Addr):List (Addr×Obj):=(ER g h L).filter fun p=>decide (p.1≠d)
structure Mod (K:PySem.W.Frag) (mg:Str->Option Value) (base:Heap):Prop where
 Lj:K.In base
 glob:base.Ns mainGlobals mg
 blt:∃ mb,base.Ns builtinsNs mb /\ ∀ x:Str,x≠"__name__"->mb x=bootBuiltins x
 nolimit:base.NoLimit
structure Cx where
 prog:Program
 w:World
 K:PySem.W.Frag
 mg:Str->Option Value
 base:Heap
 A:Around
 N:List Str
 eJ:Shared
 Bu:Hp
 env:Env
 outer:List Env
 stack:List Env
 ex:List Addr
 fn:Str->Bool
 calm:Bool
 pn:List (Addr×Obj)
 xe:Value->Shared->Prop
def mi (l:List Env):List Addr:=l.filterMap (·.frame)
abbrev Cx.fs (X:Cx):List Addr:=mi X.outer
def KI (sc:Scope) (x:Str):Prop:=sc.names.lookup x=some .local \/ sc.names.lookup x=some .cell \/ sc.names.lookup x=some .free
def Loc (sc:Scope) (x:Str):Prop:=sc.names.lookup x=some .local \/ sc.names.lookup x=some .cell
def Look (env:Env) (h:Heap) (m:Str->Option Value) (x:Str) (u:Value):Prop:=
 (env.kindOf x=some .local /\ m x=some u) \/ ((env.kindOf x=some .cell \/ env.kindOf x=some .free) /\ ∃ c,env.cells.lookup x=some c /\ h.IsCell c (some u))
structure Cx.Ok (X:Cx):Prop where
 mod:Mod X.K X.mg X.base
 kind:X.env.scope.kind=.function
 glob:X.env.globals=mainGlobals
 blt:X.env.builtins=builtinsNs
 above:X.eJ.heap.objs.size<=X.env.locals
 inj:∀ x y c,X.env.cells.lookup x=some c->X.env.cells.lookup y=some c->x=y
 has:∀ x,(X.env.kindOf x=some .cell \/ X.env.kindOf x=some .free)->∃ c,X.env.cells.lookup x=some c
 Bv:∀ x c,X.fn x=true->X.env.cells.lookup x=some c->X.eJ.heap.objs.size<=c
 hd:X.calm=true->X.A.handled=none
 frames:X.A.frames=some X.stack
 EC:X.stack=X.outer \/ (X.stack=X.env :: X.outer /\ X.env.frame=some X.env.locals)
 G5:∀ b∈X.ex,b≠X.env.locals /\ ∀ x c,X.env.cells.lookup x=some c->c≠b
 bs:∀ b o,X.base.get? b=some o->X.eJ.heap.get? b=some o /\ X.Bu b=none
 we:X.base.objs.size<=X.eJ.heap.objs.size
 nH:∀ b o,X.base.get? b=some o->b∉X.ex
 qf:∀ b∈X.ex,b∉X.fs
 gW:X.eJ.heap.FunFrames X.base X.outer
 wg:∀ b∈X.fs,X.Bu b=none
structure Inv (X:Cx) (pins:List (Addr×Obj)) (σ:List (Option V)) (H:Hp) (s:Shared):Prop where
 ok:X.Ok
 os:s.os=X.eJ.os
 bare:AllBare s.gens
 base:Un X.fs X.ex X.Bu H X.eJ.heap s.heap
 loc:∃ m,s.heap.Ns X.env.locals m /\ ∀ (i:Nat) (x:Str) (v:V),X.N[i]?=some x->σ[i]?=some (some v)->KI X.env.scope x->∃ u,RelV v u /\ Look X.env s.heap m x u
 cell:∀ x c,X.env.cells.lookup x=some c->∃ v,s.heap.IsCell c v
 free:H X.env.locals=none
 eA:∀ x c,X.env.cells.lookup x=some c->H c=none
 pin:∀ p∈X.pn ++ pins,s.heap.get? p.1=some p.2 /\ H p.1=none /\ p.1≠X.env.locals /\ p.1∉X.fs /\ ∀ v,p.2.data≠.cell v
 bE:ka X.prog X.w H s.heap
 len:σ.length=X.N.length
section
variable {X:Cx} {pins:List (Addr×Obj)} {σ:List (Option V)} {H H':Hp} {s:Shared} {h':Heap}
theorem Cx.Ok.Ob (ok:X.Ok) {b:Addr} {o:Obj} (e:X.base.get? b=some o):b∉X.fs:=fun hb=>by
 have:=(ok.gW.mem hb).1
 rw [e] at this; cases this
theorem Inv.bs (I:Inv X pins σ H s):∀ b o,X.base.get? b=some o->s.heap.get? b=some o /\ H b=none:=fun b o e=>
 ⟨I.base.keep b o (I.ok.bs b o e).1 (I.ok.bs b o e).2 (I.ok.Ob e) (I.ok.nH b o e),I.base.free b o (I.ok.bs b o e).1 (I.ok.bs b o e).2 (I.ok.nH b o e)⟩
theorem Inv.bk (I:Inv X pins σ H s):∀ b o,X.base.get? b=some o->s.heap.get? b=some o:=fun b o e=>(I.bs b o e).1
theorem Inv.mod (I:Inv X pins σ H s):Mod X.K X.mg X.base:=I.ok.mod
theorem Inv.v5 (I:Inv X pins σ H s):X.K.In s.heap:=I.ok.mod.Lj.keeps I.bk
theorem Inv.lt (I:Inv X pins σ H s):X.env.locals < s.heap.objs.size:=let ⟨_,hn,_⟩:=I.loc; hn.lt
theorem Inv.sz (I:Inv X pins σ H s):X.eJ.heap.objs.size<=s.heap.objs.size:=Nat.le_trans I.ok.above (Nat.le_of_lt I.lt)
theorem Inv.Ih (I:Inv X pins σ H s) {a:Addr} (h:s.heap.objs.size<=a):a∉X.fs:=fun hb=>by
 obtain ⟨_,o,ho,_⟩:=I.ok.gW.mem hb
 exact absurd (Nat.lt_of_lt_of_le (Heap.lt_size ho) (Nat.le_trans I.sz h)) (Nat.lt_irrefl _)
theorem Inv.ED (I:Inv X pins σ H s):∀ x c,X.env.cells.lookup x=some c->c≠X.env.locals:=fun x c e z=>by
 obtain ⟨v,o,ho,hd⟩:=I.cell x c e
 obtain ⟨m,⟨o',es,ep,tW,Bk,_⟩,_⟩:=I.loc
 rw [z,tW] at ho; cases ho; rw [Bk] at hd; cases hd
theorem Inv.gW (I:Inv X pins σ H s):s.heap.FunFrames X.base X.outer:=by
 have all:∀ (l:List Env),(∀ b∈mi l,b∈X.fs)->X.eJ.heap.FunFrames X.base l->s.heap.FunFrames X.base l:=by
  intro l
  induction l with
  | nil=>intro _ _; trivial
  | cons env r ih=>
    intro hs hl
    obtain ⟨hk,⟨L,o,hf,hn,ho,hd⟩,hr⟩:=hl
    have hL:L∈X.fs:=hs L (by unfold mi; rw [List.filterMap_cons,hf]; exact List.mem_cons_self)
    obtain ⟨sl,e⟩:=I.base.slot L o ho (I.ok.wg L hL) hL fun z=>I.ok.qf L z hL
    exact ⟨hk,⟨L,_,hf,hn,e,hd⟩,ih (fun b hb=>hs b (by unfold mi; rw [List.filterMap_cons,hf]; exact List.mem_cons_of_mem _ hb)) hr⟩
 exact all X.outer (fun _ hb=>hb) I.ok.gW
theorem Inv.stack (I:Inv X pins σ H s):s.heap.FunFrames X.base X.stack:=by
 rcases I.ok.EC with e | ⟨e,hf⟩
 ·rw [e]; exact I.gW
 ·rw [e]
  obtain ⟨m,hn,_⟩:=I.loc
  refine .cons (by rw [I.ok.kind]; decide) hf hn ?_ I.gW
  exact Heap.get?_none_of_le (Nat.le_trans I.ok.we I.ok.above)
theorem Inv.fQ (I:Inv X pins σ H s):∀ b∈mi X.stack,b∈X.env.locals :: X.fs:=fun b hb=>by
 rcases I.ok.EC with e | ⟨e,hf⟩
 ·rw [e] at hb; exact List.mem_cons_of_mem _ hb
 ·rw [e] at hb
  unfold mi at hb
  rw [List.filterMap_cons,hf] at hb
  exact hb
theorem Inv.nQ (I:Inv X pins σ H s):∀ b∈mi X.stack,H b=none:=fun b hb=>by
 rcases List.mem_cons.mp (I.fQ b hb) with e | hb
 ·rw [e]; exact I.free
 ·obtain ⟨_,o,ho,_⟩:=I.ok.gW.mem hb
  exact I.base.free b o ho (I.ok.wg b hb) fun z=>I.ok.qf b z hb
theorem Inv.step {g':Array GenState} {t':Nat} {d':Drawn} {ch:List Addr} (I:Inv X pins σ H s)
  (EE:∀ b∈ch,(b∈X.ex \/ X.eJ.heap.objs.size<=b) /\ b≠X.env.locals /\ (∀ x c,X.env.cells.lookup x=some c->c≠b) /\ ∀ p∈X.pn ++ pins,p.1≠b)
  (keep:∀ b o,b≠X.env.locals->b∉X.fs->b∉ch->s.heap.get? b=some o->H b=none->h'.get? b=some o)
  (slot:∀ b o,b≠X.env.locals->b∈X.fs->b∉ch->s.heap.get? b=some o->H b=none->∃ sl,h'.get? b=some { o with slots:=sl }) (free:∀ b o,b∉ch->s.heap.get? b=some o->H b=none->H' b=none)
  (there:∀ b o,b∉ch->s.heap.get? b=some o->∃ o',h'.get? b=some o')
  (mm:∀ b xs,H b=some (.tup xs)->H' b=some (.tup xs)) (lu:∀ b o u,H b=some (.qe o u)->H' b=some (.qe o u)) (mn:∀ b ps,H b=some (.G4 ps)->∃ more,H' b=some (.G4 (ps ++ more)))
  (ns:∀ m,s.heap.Ns X.env.locals m->h'.Ns X.env.locals m) (bE:ka X.prog X.w H' h') (hg:AllBare g'):
  Inv X pins σ H' { s with heap:=h',gens:=g',drawn:=d',toks:=t' }:=by
 have Uu:∀ b o,X.eJ.heap.get? b=some o->b≠X.env.locals:=fun b o e=>Nat.ne_of_lt (Nat.lt_of_lt_of_le (Heap.lt_size e) I.ok.above)
 have NC:∀ b o,X.eJ.heap.get? b=some o->b∉X.ex->b∉ch:=fun b o e hx hb=>by
  rcases (EE b hb).1 with z | z
  ·exact hx z
  ·exact absurd (Nat.lt_of_lt_of_le (Heap.lt_size e) z) (Nat.lt_irrefl _)
 have cellK:∀ x c,X.env.cells.lookup x=some c->∀ v,s.heap.IsCell c v->h'.IsCell c v:=fun x c e v ⟨o,ho,hd⟩=>by
  have Lk:c∉ch:=fun z=>(EE c z).2.2.1 x c e rfl
  by_cases hc:c∈X.fs
  ·obtain ⟨sl,q⟩:=slot c o (I.ED x c e) hc Lk ho (I.eA x c e)
   exact ⟨_,q,hd⟩
  ·exact ⟨o,keep c o (I.ED x c e) hc Lk ho (I.eA x c e),hd⟩
 refine ⟨I.ok,I.os,hg,⟨fun b o e n hb hx=>?_,fun b o e n hb hx=>?_,fun b o e n hx=>?_,fun b o e hx=>?_,fun b xs e=>mm b xs (I.base.mm b xs e),fun b o xs e=>lu b o xs (I.base.lu b o xs e),fun b ps e=>?_⟩,?_,fun x c e=>?_,?_,fun x c e=>?_,fun p hp=>?_,bE,I.len⟩
 ·exact keep b o (Uu b o e) hb (NC b o e hx) (I.base.keep b o e n hb hx) (I.base.free b o e n hx)
 ·obtain ⟨sl,e1⟩:=I.base.slot b o e n hb hx
  obtain ⟨KJ,e2⟩:=slot b _ (Uu b o e) hb (NC b o e hx) e1 (I.base.free b o e n hx)
  exact ⟨KJ,e2⟩
 ·obtain ⟨o',e1⟩:=I.base.there b o e hx
  exact free b o' (NC b o e hx) e1 (I.base.free b o e n hx)
 ·obtain ⟨o',e1⟩:=I.base.there b o e hx
  exact there b o' (NC b o e hx) e1
 ·obtain ⟨m1,e1⟩:=I.base.mn b ps e
  obtain ⟨m2,e2⟩:=mn b _ e1
  exact ⟨m1 ++ m2,by rw [e2,Array.append_assoc]⟩
 ·obtain ⟨m,hn,hl⟩:=I.loc
  refine ⟨m,ns m hn,fun i x v e1 e2 e3=>?_⟩
  obtain ⟨u,r,l⟩:=hl i x v e1 e2 e3
  refine ⟨u,r,?_⟩
  rcases l with l | ⟨k,c,e,z⟩
  ·exact .inl l
  ·exact .inr ⟨k,c,e,cellK x c e _ z⟩
 ·obtain ⟨v,z⟩:=I.cell x c e
  exact ⟨v,cellK x c e v z⟩
 ·obtain ⟨m,⟨o,_,_,ho,_⟩,_⟩:=I.loc
  exact free _ o (fun z=>(EE _ z).2.1 rfl) ho I.free
 ·obtain ⟨v,o,ho,hd⟩:=I.cell x c e
  exact free c o (fun z=>(EE c z).2.2.1 x c e rfl) ho (I.eA x c e)
 ·obtain ⟨e,n,ne,nf,d⟩:=I.pin p hp
  have Lk:p.1∉ch:=fun z=>(EE p.1 z).2.2.2 p hp rfl
  exact ⟨keep p.1 p.2 ne nf Lk e n,free p.1 p.2 Lk e n,ne,nf,d⟩
theorem Inv.un {t':Nat} (I:Inv X pins σ H s) (u:Un X.fs [] H H' s.heap h') (bE:ka X.prog X.w H' h'):Inv X pins σ H' { s with heap:=h',toks:=t' }:=by
 obtain ⟨m,⟨o,es,ep,ho,r⟩,_⟩:=id I.loc
 obtain ⟨sl,hL⟩:=u.any ho I.free (by simp)
 exact I.step (g':=s.gens) (d':=s.drawn) (ch:=[]) (fun _ z=>nomatch z) (fun b o _ hb _ e n=>u.keep b o e n hb (by simp)) (fun b o _ hb _ e n=>u.slot b o e n hb (by simp)) (fun b o _ e n=>u.free b o e n (by simp)) (fun b o _ e=>u.there b o e (by simp)) u.mm u.lu u.mn (fun m' hm=>by
  obtain ⟨o',tX,Oc,tW,r'⟩:=hm
  rw [ho] at tW; cases tW
  exact ⟨_,tX,Oc,hL,r'⟩) bE I.bare
theorem Inv.call {g':Array GenState} {t':Nat} {d':Drawn} {ch:List Addr} (I:Inv X pins σ H s) (u:Un (mi X.stack) ch H H' s.heap h') (bE:ka X.prog X.w H' h') (hg:AllBare g')
  (EE:∀ b∈ch,(b∈X.ex \/ X.eJ.heap.objs.size<=b) /\ b≠X.env.locals /\ (∀ x c,X.env.cells.lookup x=some c->c≠b) /\ ∀ p∈X.pn ++ pins,p.1≠b):
  Inv X pins σ H' { s with heap:=h',gens:=g',drawn:=d',toks:=t' }:=by
 obtain ⟨m,⟨o,es,ep,ho,r⟩,_⟩:=id I.loc
 obtain ⟨sl,hL⟩:=u.any ho I.free fun z=>(EE _ z).2.1 rfl
 exact I.step (ch:=ch) EE (fun b o hL hb hc e n=>u.keep b o e n (fun z=>(List.mem_cons.mp (I.fQ b z)).elim hL hb) hc) (fun b o _ _ hc e n=>u.any e n hc) (fun b o hc e n=>u.free b o e n hc) (fun b o hc e=>u.there b o e hc) u.mm u.lu u.mn (fun m' hm=>by
  obtain ⟨o',tX,Oc,tW,r'⟩:=hm
  rw [ho] at tW; cases tW
  exact ⟨_,tX,Oc,hL,r'⟩) bE hg
theorem Inv.turned {t':Nat} {it:Addr} (I:Inv X pins σ H s) (k:∀ b o,b≠it->s.heap.get? b=some o->h'.get? b=some o) (hn:H it=none) (hL:it≠X.env.locals)
  (h1:it∈X.ex \/ X.eJ.heap.objs.size<=it) (h2:∀ x c,X.env.cells.lookup x=some c->c≠it) (h3:∀ p∈X.pn ++ pins,p.1≠it):Inv X pins σ H { s with heap:=h',toks:=t' }:=by
 have Ll:∀ b u,H b=some u->b≠it:=fun b u e z=>by rw [z,hn] at e; cases e
 refine I.step (g':=s.gens) (d':=s.drawn) (ch:=[it]) (fun b hb=>?_) (fun b o _ _ hc e _=>k b o (fun z=>hc (by simp [z])) e) (fun b o _ _ hc e _=>⟨o.slots,k b o (fun z=>hc (by simp [z])) e⟩) (fun _ _ _ _ n=>n)
  (fun b o hc e=>⟨o,k b o (fun z=>hc (by simp [z])) e⟩) (fun _ _ e=>e) (fun _ _ _ e=>e) (fun b ps e=>⟨#[],by rw [e]; simp⟩) (fun m hm=>?_) (fun b u e=>?_) I.bare
 ·have e:b=it:=by simpa using hb
  subst e
  exact ⟨h1,hL,h2,h3⟩
 ·obtain ⟨o,es,ep,ho,r⟩:=hm
  exact ⟨o,es,ep,k _ o (Ne.symm hL) ho,r⟩
 ·refine (I.bE b u e).nG (fun c v hc q=>k c v ?_ q) (fun _ q=>q) fun _ _ q=>q
  rcases hc with z | z
  ·rw [z]; exact Ll b u e
  ·exact Ll c _ z
theorem Inv.tok (I:Inv X pins σ H s) (t:Nat):Inv X pins σ H { s with toks:=t }:=I.un (h':=s.heap) (t':=t) Un.refl I.bE
theorem Inv.kept {t':Nat} (I:Inv X pins σ H s) (k:∀ b u,s.heap.get? b=some u->h'.get? b=some u):Inv X pins σ H { s with heap:=h',toks:=t' }:=I.un (Un.kept k) (I.bE.kept k)
theorem Inv.laid {a:Addr} {o:HO} {t':Nat} (I:Inv X pins σ H s) (k:∀ b u,s.heap.get? b=some u->h'.get? b=some u) (hp:s.heap.objs.size<=a) (new:cF X.prog X.w (upd H a o) h' a o):
  Inv X pins σ (upd H a o) { s with heap:=h',toks:=t' }:=I.un (Un.laid k hp (I.bE.fresh hp)) (I.bE.laid k hp new)
theorem Inv.write {x e:Addr} {o:HO} {t':Nat} (I:Inv X pins σ H s) (mu:Lh (H x)) (he:e=x \/ H e=some (.own x)) (k:∀ b u,b≠e->s.heap.get? b=some u->h'.get? b=some u) (zP:∃ u,h'.get? e=some u)
  (new:cF X.prog X.w (upd H x o) h' x o):Inv X pins σ (upd H x o) { s with heap:=h',toks:=t' }:=I.un (Un.write mu he k zP) (I.bE.write mu he k zP new)
theorem Inv.fX {pins':List (Addr×Obj)} (I:Inv X pins σ H s) (h:∀ p∈pins',s.heap.get? p.1=some p.2 /\ H p.1=none /\ p.1≠X.env.locals /\ p.1∉X.fs /\ ∀ v,p.2.data≠.cell v):Inv X pins' σ H s:=
 ⟨I.ok,I.os,I.bare,I.base,I.loc,I.cell,I.free,I.eA,fun p hp=>(List.mem_append.mp hp).elim (fun z=>I.pin p (List.mem_append_left _ z)) (h p),I.bE,I.len⟩
theorem t9 {N:List Str} (hN:N.Nodup) {i j:Nat} {x:Str} (a:N[i]?=some x) (b:N[j]?=some x):i=j:=by
 obtain ⟨h1,e1⟩:=List.getElem?_eq_some_iff.mp a
 obtain ⟨h2,e2⟩:=List.getElem?_eq_some_iff.mp b
 exact (List.getElem_inj hN).mp (e1.trans e2.symm)
theorem qL {M:Model} {A:Around} {E:Value->Shared->Prop} {i:Nat} {x:Str} {v:V} {u:Value} {Q:Unit->Shared->Prop} (I:Inv X pins σ H s) (hN:X.N.Nodup) (hi:X.N[i]?=some x) (hx:Loc X.env.scope x) (r:RelV v u)
  (h:∀ s',Inv X pins (σ.set i (some v)) H s'->(∃ a,Heap.SameBut a s.heap s'.heap /\ (a=X.env.locals \/ X.env.cells.lookup x=some a))->Q () s') (hf:X.fn x=true \/ X.env.scope.names.lookup x=some .local):wpAny M A (storeName X.env x u) Q E s:=by
 obtain ⟨m,hn,hl⟩:=id I.loc
 have Od:(X.env.scope.kind == .class || (X.env.scope.kind == .module && X.env.locals != X.env.globals))=false:=by rw [I.ok.kind]; rfl
 have Lm:i < σ.length:=by rw [I.len]; exact (List.getElem?_eq_some_iff.mp hi).1
 have ED:=I.ED
 have tracked:∀ {a:Addr} {h':Heap},(∃ o,s.heap.get? a=some o /\ H a=none)->Heap.SameBut a s.heap h'->ka X.prog X.w H h':=fun {a h'} ha hs b ob e=>by
  obtain ⟨_,_,G6⟩:=ha
  refine (I.bE b ob e).nG (fun c w' hc q=>(hs.2 c ?_).trans q) (fun _ q=>q) fun _ _ q=>q
  rintro rfl
  rcases hc with rfl | hc
  ·rw [G6] at e; cases e
  ·rw [G6] at hc; cases hc
 rcases hx with hk | hk
 ·refine wpAny_storeName_local hk hn (fun h' Oe hs=>?_) Od
  obtain ⟨oL,_,_,Ln,_⟩:=id hn
  refine h _ ⟨I.ok,I.os,I.bare,⟨fun b o e n hb hx=>?_,fun b o e n hb hx=>?_,I.base.free,fun b o e hx=>?_,I.base.mm,I.base.lu,I.base.mn⟩,⟨_,Oe,fun j y v' e1 e2 e3=>?_⟩,fun y c e=>?_,I.free,I.eA,fun p hp=>?_,tracked ⟨oL,Ln,I.free⟩ hs,by simpa using I.len⟩ ⟨_,hs,.inl rfl⟩
  ·exact (hs.2 b (Nat.ne_of_lt (Nat.lt_of_lt_of_le (Heap.lt_size e) I.ok.above))).trans (I.base.keep b o e n hb hx)
  ·obtain ⟨sl,e1⟩:=I.base.slot b o e n hb hx
   exact ⟨sl,(hs.2 b (Nat.ne_of_lt (Nat.lt_of_lt_of_le (Heap.lt_size e) I.ok.above))).trans e1⟩
  ·obtain ⟨o',e1⟩:=I.base.there b o e hx
   exact ⟨o',(hs.2 b (Nat.ne_of_lt (Nat.lt_of_lt_of_le (Heap.lt_size e) I.ok.above))).trans e1⟩
  ·by_cases hj:j=i
   ·subst hj
    rw [hi] at e1; cases e1
    rw [List.getElem?_set_self Lm] at e2
    cases e2
    exact ⟨u,r,.inl ⟨hk,by simp⟩⟩
   ·rw [List.getElem?_set_ne (Ne.symm hj)] at e2
    obtain ⟨u',r',q⟩:=hl j y v' e1 e2 e3
    refine ⟨u',r',?_⟩
    rcases q with ⟨k,e⟩ | ⟨k,c,e,z⟩
    ·refine .inl ⟨k,?_⟩
     have:y≠x:=fun e=>hj (t9 hN e1 (e ▸ hi))
     simp [this,e]
    ·exact .inr ⟨k,c,e,z.sameBut hs (ED y c e)⟩
  ·obtain ⟨w',z⟩:=I.cell y c e
   exact ⟨w',z.sameBut hs (ED y c e)⟩
  ·obtain ⟨e,n,ne,nf,d⟩:=I.pin p hp
   exact ⟨(hs.2 p.1 ne).trans e,n,ne,nf,d⟩
 ·have Of:X.fn x=true:=by
   rcases hf with z | z
   ·exact z
   ·rw [z] at hk; cases hk
  obtain ⟨c,hc⟩:=I.ok.has x (.inl hk)
  obtain ⟨w',z⟩:=I.cell x c hc
  refine wpAny_storeName_cell I.ok.kind hk hc z (fun h' Ii hs=>?_)
  obtain ⟨oc,Uv,Og⟩:=id z
  refine h { s with heap:=h' } ⟨I.ok,I.os,I.bare,⟨fun b o e n hb hx=>?_,fun b o e n hb hx=>?_,I.base.free,fun b o e hx=>?_,I.base.mm,I.base.lu,I.base.mn⟩,⟨m,hn.sameBut hs (Ne.symm (ED x c hc)),fun j y v' e1 e2 e3=>?_⟩,fun y c' e=>?_,I.free,I.eA,fun p hp=>?_,tracked ⟨oc,Uv,I.eA x c hc⟩ hs,by simpa using I.len⟩ ⟨c,hs,.inr hc⟩
  ·exact (hs.2 b (Nat.ne_of_lt (Nat.lt_of_lt_of_le (Heap.lt_size e) (I.ok.Bv x c Of hc)))).trans (I.base.keep b o e n hb hx)
  ·obtain ⟨sl,e1⟩:=I.base.slot b o e n hb hx
   exact ⟨sl,(hs.2 b (Nat.ne_of_lt (Nat.lt_of_lt_of_le (Heap.lt_size e) (I.ok.Bv x c Of hc)))).trans e1⟩
  ·obtain ⟨o',e1⟩:=I.base.there b o e hx
   exact ⟨o',(hs.2 b (Nat.ne_of_lt (Nat.lt_of_lt_of_le (Heap.lt_size e) (I.ok.Bv x c Of hc)))).trans e1⟩
  ·by_cases hj:j=i
   ·subst hj
    rw [hi] at e1; cases e1
    rw [List.getElem?_set_self Lm] at e2
    cases e2
    exact ⟨u,r,.inr ⟨.inl hk,c,hc,Ii⟩⟩
   ·rw [List.getElem?_set_ne (Ne.symm hj)] at e2
    obtain ⟨u',r',q⟩:=hl j y v' e1 e2 e3
    refine ⟨u',r',?_⟩
    rcases q with q | ⟨k,c',e,z'⟩
    ·exact .inl q
    ·refine .inr ⟨k,c',e,z'.sameBut hs ?_⟩
     rintro rfl
     exact hj (t9 hN e1 (I.ok.inj _ _ _ e hc ▸ hi))
  ·by_cases Uw:c'=c
   ·subst Uw; exact ⟨_,Ii⟩
   ·obtain ⟨w2,z2⟩:=I.cell y c' e
    exact ⟨w2,z2.sameBut hs Uw⟩
  ·obtain ⟨e,n,ne,nf,d⟩:=I.pin p hp
   refine ⟨(hs.2 p.1 ?_).trans e,n,ne,nf,d⟩
   intro q
   rw [q,Uv] at e
   have q':oc=p.2:=Option.some.inj e
   exact d w' (by rw [<- q']; exact Og)
theorem lx {M:Model} {A:Around} {E:Value->Shared->Prop} {i:Nat} {x:Str} {v:V} {u:Value} {Q:Unit->Shared->Prop} (I:Inv X pins σ H s) (hN:X.N.Nodup) (hi:X.N[i]?=some x) (hx:Loc X.env.scope x) (r:RelV v u)
  (h:∀ s',Inv X pins (σ.set i (some v)) H s'->Q () s') (hf:X.fn x=true \/ X.env.scope.names.lookup x=some .local):wpAny M A (storeName X.env x u) Q E s:=
 qL I hN hi hx r (fun s' I' _=>h s' I') hf
theorem Inv.Bw {s':Shared} {ch:List Addr} (I:Inv X pins σ H s) (ho:s'.os=s.os) (u:Un (mi X.stack) ch H H' s.heap s'.heap) (bE:ka X.prog X.w H' s'.heap) (hg:AllBare s'.gens)
  (EE:∀ b∈ch,(b∈X.ex \/ X.eJ.heap.objs.size<=b) /\ b≠X.env.locals /\ (∀ x c,X.env.cells.lookup x=some c->c≠b) /\ ∀ p∈X.pn ++ pins,p.1≠b):Inv X pins σ H' s':=by
 obtain ⟨h',g',d',t',o'⟩:=s'
 have e:o'=s.os:=ho
 subst e
 exact I.call (g':=g') (t':=t') (d':=d') u bE hg EE
end
abbrev XK:=Value->Option Addr->Hp->Prop
abbrev St:=List (Option V)
abbrev VK:=V->Hp->Prop
abbrev TE:=St->Hp->VK->Prop
abbrev TT:=St->Hp->(Bool->Hp->Prop)->Prop
abbrev TA:=St->Hp->(List V->Hp->Prop)->Prop
structure Ends where
 nx:St->Hp->Prop
 rt:VK
 bk:St->Hp->Prop:=fun _ _=>False
 ct:St->Hp->Prop:=fun _ _=>False
abbrev TS:=Ends->St->Hp->Prop
def EP (X:Cx) (pins:List (Addr×Obj)) (σ:St) (Q:VK) (u:Value) (s':Shared):Prop:=∃ v H',Inv X pins σ H' s' /\ RelV v u /\ Q v H'
def TP (X:Cx) (pins:List (Addr×Obj)) (σ:St) (Q:Bool->Hp->Prop) (b:Bool) (s':Shared):Prop:=∃ H',Inv X pins σ H' s' /\ Q b H'
def AP (X:Cx) (pins:List (Addr×Obj)) (σ:St) (Q:List V->Hp->Prop) (us:List Value) (s':Shared):Prop:=∃ vs H',Inv X pins σ H' s' /\ bf vs us /\ Q vs H'
def SP (X:Cx) (pins:List (Addr×Obj)) (D:Ends) (f:Flow) (s':Shared):Prop:=
 match f with
 | .next=>∃ bM H',Inv X pins bM H' s' /\ D.nx bM H'
 | .brk=>∃ bM H',Inv X pins bM H' s' /\ D.bk bM H'
 | .cont=>∃ bM H',Inv X pins bM H' s' /\ D.ct bM H'
 | .ret u=>∃ v bM H',Inv X pins bM H' s' /\ RelV v u /\ D.rt v H'
def PE (X:Cx) (e:Expr) (t:TE):Prop:=
 ∀ (pins:List (Addr×Obj)) (s:Shared) (σ:St) (H:Hp) (Q:VK),Inv X pins σ H s->t σ H Q->wpAny (model X.prog X.w) X.A (eval e X.env) (EP X pins σ Q) X.xe s
def PT (X:Cx) (e:Expr) (t:TT):Prop:=
 ∀ (pins:List (Addr×Obj)) (s:Shared) (σ:St) (H:Hp) (Q:Bool->Hp->Prop),Inv X pins σ H s->t σ H Q->wpAny (model X.prog X.w) X.A (isTrue e X.env (eval e X.env)) (TP X pins σ Q) X.xe s
def PW (X:Cx) (e:Expr) (t:TT):Prop:=
 ∀ (whole:Sem Value) (pins:List (Addr×Obj)) (s:Shared) (σ:St) (H:Hp) (Q:Bool->Hp->Prop),Inv X pins σ H s->t σ H Q->wpAny (model X.prog X.w) X.A (isTrue e X.env whole) (TP X pins σ Q) X.xe s
theorem PW.pt {X:Cx} {e:Expr} {t:TT} (h:PW X e t):PT X e t:=h _
def PA (X:Cx) (es:List Expr) (t:TA):Prop:=
 ∀ (pos:Pos) (pins:List (Addr×Obj)) (s:Shared) (σ:St) (H:Hp) (Q:List V->Hp->Prop),Inv X pins σ H s->t σ H Q->wpAny (model X.prog X.w) X.A (spliced (backTo pos (starEach es X.env))) (AP X pins σ Q) X.xe s
def PS (X:Cx) (st:Stmt) (t:TS):Prop:=
 ∀ (pins:List (Addr×Obj)) (s:Shared) (σ:St) (H:Hp) (D:Ends),Inv X pins σ H s->t D σ H->wpAny (model X.prog X.w) X.A (exec st X.env) (SP X pins D) X.xe s
def ji (X:Cx) (st:List Stmt) (t:TS):Prop:=
 ∀ (pins:List (Addr×Obj)) (s:Shared) (σ:St) (H:Hp) (D:Ends),Inv X pins σ H s->t D σ H->wpAny (model X.prog X.w) X.A (execs st X.env) (SP X pins D) X.xe s
theorem dh {α:Type} {t:Sem α} {Q Q':α->Shared->Prop} {M:Model} {A:Around} {E:Value->Shared->Prop} {s:Shared} (h:wpAny M A t Q E s) (hQ:∀ a s,Q a s->Q' a s):wpAny M A t Q' E s:=wpAny_mono h hQ fun _ _ x=>x
section
variable {X:Cx}
def qg (i:Nat):TE:=fun σ H Q=>∃ v,σ[i]?=some (some v) /\ Q v H
def tC (v:V):TE:=fun _ H Q=>Q v H
theorem Ij {i:Nat} {x:Str} {pos:Pos} (hN:X.N[i]?=some x) (hv:KI X.env.scope x) (hd:(x == ("__debug__":Str))=false:=by decide) (qh:(x == ("__classdict__":Str))=false:=by decide):PE X (.Name x pos) (qg i):=by
 intro pins s σ H Q I h
 obtain ⟨v,e,h⟩:=h
 obtain ⟨m,hn,hl⟩:=I.loc
 obtain ⟨u,r,l⟩:=hl i x v hN e hv
 have fin:EP X pins σ Q u s:=⟨v,H,I,r,h⟩
 rcases l with ⟨hk,hm⟩ | ⟨hk,c,hc,G7⟩
 ·exact wpAny_Name (wpAny_loadName_local I.ok.kind hk hn hm fin) hd
 ·rcases hk with hk | hk
  ·exact wpAny_Name (wpAny_loadName_cell I.ok.kind hk hc G7 fin) hd
  ·exact wpAny_Name (wpAny_loadName_free I.ok.kind hk hc G7 fin qh) hd
theorem aj {i j pos}:PE X (.Constant (.int i) j pos) (tC (.int i)):=fun _ _ _ H _ I h=>wpAny_Constant_int ⟨.int i,H,I.tok _,⟨_,rfl⟩,h⟩
theorem G8 {b j pos}:PE X (.Constant (.bool b) j pos) (tC (.bl b)):=fun _ _ _ H _ I h=>Constant_bool ⟨.bl b,H,I,rfl,h⟩
theorem dW {x j pos}:PE X (.Constant (.str x) j pos) (tC (.str x)):=fun _ _ _ H _ I h=>Calls.Constant_str ⟨.str x,H,I.tok _,⟨_,rfl⟩,h⟩
def Gl (X:Cx) (x:Str):Prop:=X.env.kindOf x=some .globalImplicit
theorem ly {E:Value->Shared->Prop} {pins:List (Addr×Obj)} {s:Shared} {σ:St} {H:Hp} {x:Str} {u:Value} {pos:Pos} {Q:Value->Shared->Prop} (I:Inv X pins σ H s) (hg:Gl X x) (hm:X.mg x=some u) (h:Q u s)
  (hd:(x == ("__debug__":Str))=false:=by decide):wpAny (model X.prog X.w) X.A (eval (.Name x pos) X.env) Q E s:=
 Calls.Name_function_global I.ok.kind hg (Calls.loadGlobal_global (by rw [I.ok.glob]; exact I.mod.glob.keeps I.bk) hm h) hd
theorem ic {E:Value->Shared->Prop} {pins:List (Addr×Obj)} {s:Shared} {σ:St} {H:Hp} {x:Str} {u:Value} {pos:Pos} {Q:Value->Shared->Prop} (I:Inv X pins σ H s) (hg:Gl X x) (hm:X.mg x=none) (hv:bootBuiltins x=some u) (h:Q u s)
  (hn:x≠"__name__":=by decide) (hd:(x == ("__debug__":Str))=false:=by decide):wpAny (model X.prog X.w) X.A (eval (.Name x pos) X.env) Q E s:=by
 obtain ⟨mb,h1,h2⟩:=I.mod.blt
 exact Calls.Name_function_global I.ok.kind hg (Calls.loadGlobal_builtin (by rw [I.ok.glob]; exact I.mod.glob.keeps I.bk) hm (by rw [I.ok.blt]; exact h1.keeps I.bk) ((h2 x hn).trans hv) h) hd
theorem ES {x:Str} {v:V} {u:Value} {pos:Pos} (hg:Gl X x) (hm:X.mg x=some u) (r:RelV v u) (hd:(x == ("__debug__":Str))=false:=by decide):PE X (.Name x pos) (tC v):=
 fun _ _ _ H _ I h=>ly I hg hm ⟨v,H,I,r,h⟩ hd
theorem ET {x:Str} {v:V} {u:Value} {pos:Pos} (hg:Gl X x) (hm:X.mg x=none) (hv:bootBuiltins x=some u) (r:RelV v u) (hn:x≠"__name__":=by decide) (hd:(x == ("__debug__":Str))=false:=by decide):PE X (.Name x pos) (tC v):=
 fun _ _ _ H _ I h=>ic I hg hm hv ⟨v,H,I,r,h⟩ hn hd
variable {a b:Expr} {ta tb:TE} {pos:Pos}
variable {tA ND:TT} {rest:List Expr}
def Oh (t u:TT):TT:=fun σ H Q=>t σ H fun c H1=>if c=true then u σ H1 Q else Q false H1
def VL (t u:TT):TT:=fun σ H Q=>t σ H fun c H1=>if c=true then Q true H1 else u σ H1 Q
def Oi (t:TT):TT:=fun σ H Q=>t σ H fun c H1=>Q (!c) H1
theorem pw_and1 (ha:PT X a tA):PW X (.BoolOp .And [a] pos) tA:=by
 intro wh pins s σ H Q I h
 refine isTrue_and (dh (ha pins s σ H Q I h) fun c s1 e=>?_)
 cases c with
 | true=>exact isTrue_and_nil e
 | false=>exact e
theorem pw_or1 (ha:PT X a tA):PW X (.BoolOp .Or [a] pos) tA:=by
 intro wh pins s σ H Q I h
 refine isTrue_or (dh (ha pins s σ H Q I h) fun c s1 e=>?_)
 cases c with
 | false=>exact isTrue_or_nil e
 | true=>exact e
theorem pw_and (ha:PT X a tA) (hb:PW X (.BoolOp .And (b :: rest) pos) ND):PW X (.BoolOp .And (a :: b :: rest) pos) (Oh tA ND):=by
 intro wh pins s σ H Q I h
 refine isTrue_and (dh (ha pins s σ H _ I h) fun c s1 ⟨H1,I1,q1⟩=>?_)
 cases c with
 | true=>exact hb wh pins s1 σ H1 Q I1 q1
 | false=>exact ⟨H1,I1,q1⟩
theorem pw_or (ha:PT X a tA) (hb:PW X (.BoolOp .Or (b :: rest) pos) ND):PW X (.BoolOp .Or (a :: b :: rest) pos) (VL tA ND):=by
 intro wh pins s σ H Q I h
 refine isTrue_or (dh (ha pins s σ H _ I h) fun c s1 ⟨H1,I1,q1⟩=>?_)
 cases c with
 | true=>exact ⟨H1,I1,q1⟩
 | false=>exact hb wh pins s1 σ H1 Q I1 q1
theorem Ik (ha:PT X a tA):PT X (.UnaryOp .Not a pos) (Oi tA):=by
 intro pins s σ H Q I h
 exact isTrue_not (ha pins s σ H (fun c H1=>Q (!c) H1) I h)
def Lo (ta tb:TE):TE:=fun σ H Q=>ta σ H fun x H1=>∃ c,x=.bl c /\ if c=true then tb σ H1 Q else Q (.bl false) H1
theorem Il {op} {t:TE} (h:PE X a t):PE X (.BoolOp op [a] pos) t:=fun pins s σ H Q I hw=>BoolOp_one (h pins s σ H Q I hw)
theorem Im (ha:PE X a ta) (hb:PE X (.BoolOp .And (b :: rest) pos) tb):PE X (.BoolOp .And (a :: b :: rest) pos) (Lo ta tb):=by
 intro pins s σ H Q I h
 refine BoolOp_and (dh (ha pins s σ H _ I h) fun v s1 ⟨x,H1,I1,r1,q1⟩=>?_)
 obtain ⟨c,rfl,q1⟩:=q1
 cases r1
 refine wpAny_truthy_bool ?_
 cases c with
 | true=>exact hb pins s1 σ H1 Q I1 q1
 | false=>exact ⟨.bl false,H1,I1,rfl,q1⟩
end
def fY (K:PySem.W.Frag) (H:Hp) (a:Addr) (xs:List V):Prop:=
 Rd H a (.lst xs) \/
  ∃ (o:Obj) (its:Array Value) (n:Nat),K.lookup a=some o /\ o.cls=.type "list" /\ o.dict=none /\ o.data=.seq its n /\ its.size<=sizeLine /\ bf xs its.toList
def jk (K:PySem.W.Frag) (H:Hp) (a:Addr) (xs:List V):Prop:=
 Rd H a (.tup xs) \/
  ∃ (o:Obj) (its:Array Value) (n:Nat),K.lookup a=some o /\ o.cls=.type "tuple" /\ o.data=.seq its n /\ its.size<=sizeLine /\ bf xs its.toList
def Oj:Value->Option V
 | .none=>some .gU
 | .bool b=>some (.bl b)
 | .int i _=>some (.int i)
 | .str x _=>some (.str x)
 | .bytes b _=>some (.Ld b)
 | .float b _=>some (.Le b)
 | .ref a=>some (.ref a)
 | .type n=>some (.ty n)
 | _=>none
theorem RelV.abs {x:V} {u:Value} (r:RelV x u):Oj u=some x:=by
 cases x with
 | gU=>cases r; rfl
 | bl _=>cases r; rfl
 | int _=>obtain ⟨t,rfl⟩:=r; rfl
 | str _=>obtain ⟨t,rfl⟩:=r; rfl
 | Ld _=>obtain ⟨t,rfl⟩:=r; rfl
 | Le _=>obtain ⟨t,rfl⟩:=r; rfl
 | ref _=>cases r; rfl
 | ty _=>cases r; rfl
theorem RelV.inj {x y:V} {u:Value} (r:RelV x u) (q:RelV y u):x=y:=Option.some.inj (r.abs.symm.trans q.abs)
theorem bf.inj:∀ {xs ys:List V} {us:List Value},bf xs us->bf ys us->xs=ys
 | _,_,_,.nil,.nil=>rfl
 | _,_,_,.cons r t,.cons r' t'=>by rw [r.inj r',bf.inj t t']
section
variable {X:Cx} {pins:List (Addr×Obj)} {σ:St} {H:Hp} {s:Shared} {a:Addr} {xs ys:List V}
theorem fY.of {K:PySem.W.Frag} (h:H a=some (.lst xs)):fY K H a xs:=.inl (.inl h)
theorem Inv.list (I:Inv X pins σ H s) (h:fY X.K H a xs):∃ its:List Value,bf xs its /\ PlainL s.heap a its.toArray /\ xs.length<=sizeLine:=by
 rcases h with h | ⟨o,its,n,hk,hc,hd,hs,hz,r⟩
 ·obtain ⟨z,its,n,r,e⟩:=h.ok I.bE
  exact ⟨its,r,⟨_,n,e,rfl,rfl,rfl⟩,z⟩
 ·refine ⟨its.toList,r,⟨o,n,I.v5 a o hk,hc,hd,by simpa using hs⟩,?_⟩
  have e:=r.length
  simp only [Array.length_toList] at e
  omega
theorem Inv.tuple (I:Inv X pins σ H s) (h:jk X.K H a xs):∃ its:List Value,bf xs its /\ IsTup s.heap a its.toArray /\ xs.length<=sizeLine:=by
 rcases h with h | ⟨o,its,n,hk,hc,hs,hz,r⟩
 ·obtain ⟨z,its,r,p⟩:=h.ok I.bE
  exact ⟨its,r,p,z⟩
 ·refine ⟨its.toList,r,⟨o,I.v5 a o hk,hc,n,by simpa using hs⟩,?_⟩
  have e:=r.length
  simp only [Array.length_toList] at e
  omega
theorem Inv.lz (I:Inv X pins σ H s) (h:fY X.K H a xs) (h':fY X.K H a ys):xs=ys:=by
 obtain ⟨its,r,⟨o,n,e,_,_,d⟩,_⟩:=I.list h
 obtain ⟨its',r',⟨o',n',e',_,_,d'⟩,_⟩:=I.list h'
 rw [e] at e'; cases e'
 rw [d] at d'
 injection d' with d1 _
 have:its=its':=by simpa using congrArg Array.toList d1
 subst this
 exact r.inj r'
theorem Inv.mo (I:Inv X pins σ H s) (h:jk X.K H a xs) (h':jk X.K H a ys):xs=ys:=by
 obtain ⟨its,r,⟨o,e,_,n,d⟩,_⟩:=I.tuple h
 obtain ⟨its',r',⟨o',e',_,n',d'⟩,_⟩:=I.tuple h'
 rw [e] at e'; cases e'
 rw [d] at d'
 injection d' with d1 _
 have:its=its':=by simpa using congrArg Array.toList d1
 subst this
 exact r.inj r'
end
abbrev Cx.qi (X:Cx) (E:Value->Shared->Prop):Cx:={ X with xe:=E }
abbrev Cx.G9 (X:Cx):Cx:=X.qi fun _ _=>False
theorem Cx.Ok.qi {X:Cx} (ok:X.Ok) (E:Value->Shared->Prop):(X.qi E).Ok:=
 ⟨ok.mod,ok.kind,ok.glob,ok.blt,ok.above,ok.inj,ok.has,ok.Bv,ok.hd,ok.frames,ok.EC,ok.G5,ok.bs,ok.we,ok.nH,ok.qf,ok.gW,ok.wg⟩
theorem Cx.Ok.jq {X:Cx} {E:Value->Shared->Prop} (ok:(X.qi E).Ok):X.Ok:=
 ⟨ok.mod,ok.kind,ok.glob,ok.blt,ok.above,ok.inj,ok.has,ok.Bv,ok.hd,ok.frames,ok.EC,ok.G5,ok.bs,ok.we,ok.nH,ok.qf,ok.gW,ok.wg⟩
section
variable {X:Cx} {pins:List (Addr×Obj)} {σ:St} {H:Hp} {s:Shared} {E:Value->Shared->Prop}
theorem Inv.qi (I:Inv X pins σ H s) (E:Value->Shared->Prop):Inv (X.qi E) pins σ H s:=⟨I.ok.qi E,I.os,I.bare,I.base,I.loc,I.cell,I.free,I.eA,I.pin,I.bE,I.len⟩
theorem Inv.jq (I:Inv (X.qi E) pins σ H s):Inv X pins σ H s:=⟨I.ok.jq,I.os,I.bare,I.base,I.loc,I.cell,I.free,I.eA,I.pin,I.bE,I.len⟩
theorem SP.jq {D:Ends} {f:Flow} {s':Shared} (h:SP (X.qi E) pins D f s'):SP X pins D f s':=by
 cases f with
 | next=>obtain ⟨bM,H',I,q⟩:=h; exact ⟨bM,H',I.jq,q⟩
 | brk=>obtain ⟨bM,H',I,q⟩:=h; exact ⟨bM,H',I.jq,q⟩
 | cont=>obtain ⟨bM,H',I,q⟩:=h; exact ⟨bM,H',I.jq,q⟩
 | ret u=>obtain ⟨v,bM,H',I,r,q⟩:=h; exact ⟨v,bM,H',I.jq,r,q⟩
theorem ji.G9 {st:List Stmt} {t:TS} (h:ji X.G9 st t):ji X st t:=fun pins s σ H D I hw=>
 wpAny_mono (h pins s σ H D (I.qi _) hw) (fun _ _ q=>q.jq) fun _ _ z=>False.elim z
end
section
variable {X:Cx} {st:Stmt} {rest:List Stmt} {t u:TS} {e:Expr} {te:TE} {pos:Pos}
def Lp:TS:=fun D σ H=>D.nx σ H
def Ol (t u:TS):TS:=fun D σ H=>t { D with nx:=u D } σ H
theorem EU:ji X [] Lp:=fun _ _ σ H _ I h=>wpAny_execs_nil ⟨σ,H,I,h⟩
theorem om (h1:PS X st t) (h2:ji X rest u):ji X (st :: rest) (Ol t u):=by
 intro pins s σ H D I h
 refine wpAny_execs_cons (dh (h1 pins s σ H { D with nx:=u D } I h) fun f s1 q=>?_)
 cases f with
 | next=>
   obtain ⟨bM,H',I',q⟩:=q
   exact h2 pins s1 bM H' D I' q
 | ret v=>exact q
 | brk=>exact q
 | cont=>exact q
theorem rN (h1:PS X st t):ji X [st] t:=by
 intro pins s σ H D I h
 refine wpAny_execs_cons (dh (h1 pins s σ H D I h) fun f s1 q=>?_)
 cases f with
 | next=>exact wpAny_execs_nil q
 | ret v=>exact q
 | brk=>exact q
 | cont=>exact q
def Lq:TS:=fun D σ H=>D.ct σ H
theorem ua:PS X (.Continue pos) Lq:=fun _ _ σ H _ I h=>wpAny_Continue ⟨σ,H,I,h⟩
theorem Inv.quiet {pins:List (Addr×Obj)} {σ:St} {H:Hp} {s:Shared} (I:Inv X pins σ H s):interactive X.env=false:=by simp [interactive,I.ok.kind]
def yB (te:TE):TS:=fun D σ H=>te σ H fun _ H1=>D.nx σ H1
theorem gY (he:PE X e te) (hs:swapsWith e none pos.line X.env=pure false:=by rfl):PS X (.Expr e pos) (yB te):=by
 intro pins s σ H D I h
 exact wpAny_Expr_any (dh (he pins s σ H _ I h) fun v s1 ⟨x,H1,I1,r1,q1⟩=>⟨σ,H1,I1,q1⟩) I.quiet hs
def Om (te:TE):TS:=fun D σ H=>te σ H D.rt
theorem oo (he:PE X e te):PS X (.Return (some e) pos) (Om te):=by
 intro pins s σ H D I h
 exact wpAny_Return_some (dh (he pins s σ H _ I h) fun v s1 ⟨x,H1,I1,r1,q1⟩=>⟨x,σ,H1,I1,r1,q1⟩)
def Oo (c:TT) (t u:TS):TS:=fun D σ H=>c σ H fun b H1=>if b=true then t D σ H1 else u D σ H1
theorem Lr {c:Expr} {a b:List Stmt} {tc:TT} (hc:PT X c tc) (ha:ji X a t) (hb:ji X b u):PS X (.If c a b pos) (Oo tc t u):=by
 intro pins s σ H D I h
 refine wpAny_If (dh (hc pins s σ H _ I h) fun d s1 ⟨H1,I1,q1⟩=>?_)
 cases d with
 | true=>exact ha pins s1 σ H1 D I1 q1
 | false=>exact hb pins s1 σ H1 D I1 q1
def Bx:TS:=fun _ _ _=>False
theorem By:PS X st Bx:=fun _ _ _ _ _ _ h=>h.elim
theorem zR {VM:List Stmt}:ji X VM Bx:=fun _ _ _ _ _ _ h=>h.elim
end
abbrev TG:=V->St->Hp->(St->Hp->Prop)->Prop
abbrev EV:=List V->St->Hp->(St->Hp->Prop)->Prop
def PG (X:Cx) (target:Expr) (t:TG):Prop:=
 ∀ (pins:List (Addr×Obj)) (s:Shared) (σ:St) (H:Hp) (v:V) (u:Value) (Q:St->Hp->Prop),Inv X pins σ H s->RelV v u->t v σ H Q->
   wpAny (model X.prog X.w) X.A (assign target X.env u) (fun _ s'=>∃ bM H',Inv X pins bM H' s' /\ Q bM H') X.xe s
def Bz (X:Cx) (ts:List Expr) (t:EV):Prop:=
 ∀ (pins:List (Addr×Obj)) (s:Shared) (σ:St) (H:Hp) (vs:List V) (us:List Value) (Q:St->Hp->Prop),Inv X pins σ H s->bf vs us->t vs σ H Q->
   wpAny (model X.prog X.w) X.A (assignInOrder ((assignEach ts X.env).map (·.2)) us) (fun _ s'=>∃ bM H',Inv X pins bM H' s' /\ Q bM H') X.xe s
section
variable {X:Cx} {pos:Pos}
def eX (i:Nat):TG:=fun v σ H Q=>Q (σ.set i (some v)) H
theorem aP {i:Nat} {x:Str} (hN:X.N.Nodup) (hi:X.N[i]?=some x) (hx:Loc X.env.scope x) (hf:X.fn x=true \/ X.env.scope.names.lookup x=some .local:=by first | exact .inl rfl | exact .inr rfl | assumption):PG X (.Name x pos) (eX i):=by
 intro pins s σ H v u Q I r h
 exact wpAny_assign_Name (lx I hN hi hx r (fun s' I'=>⟨_,H,I',h⟩) hf)
def Lu:EV:=fun vs σ H Q=>vs=[] /\ Q σ H
def BA (t:TG) (u:EV):EV:=fun vs σ H Q=>∃ v r,vs=v :: r /\ t v σ H fun bM H'=>u r bM H' Q
theorem yC:Bz X [] Lu:=by
 intro pins s σ H vs us Q I r h
 obtain ⟨e,h⟩:=h
 subst e
 cases r
 exact assignInOrder_nil ⟨σ,H,I,h⟩
theorem oq {e:Expr} {es:List Expr} {t:TG} {u:EV} (h1:PG X e t) (h2:Bz X es u)
  (hs:(assignEach (e :: es) X.env).map (·.2)=assign e X.env :: (assignEach es X.env).map (·.2):=by rfl):Bz X (e :: es) (BA t u):=by
 intro pins s σ H vs us Q I r h
 obtain ⟨v,vr,e1,h⟩:=h
 subst e1
 cases r with
 | cons r rr=>
   rw [hs]
   refine assignInOrder_cons (dh (h1 pins s σ H _ _ _ I r h) fun _ s1 ⟨Ha,H1,I1,q1⟩=>?_)
   exact h2 pins s1 Ha H1 _ _ Q I1 rr q1
def Lv (K:PySem.W.Frag) (n:Nat) (t:EV):TG:=fun v σ H Q=>∃ a xs,v=.ref a /\ jk K H a xs /\ xs.length=n /\ t xs σ H Q
theorem BB {es:List Expr} {k:Nat} {t:EV} {n:Nat} (hc:X.calm=true) (h:Bz X es t)
  (hn:(assignEach es X.env).length=n:=by rfl) (Hb:(assignEach es X.env).findIdx? (·.1)=none:=by rfl):PG X (.Tuple es k pos) (Lv X.K n t):=by
 intro pins s σ H v u Q I r hw
 obtain ⟨a,xs,e1,hq,hl,hw⟩:=hw
 subst e1
 cases r
 obtain ⟨its,rv,ht,hz⟩:=I.tuple hq
 refine assign_Tuple_tuple (I.ok.hd hc) ht (by simp [hn,<- hl,rv.length]) Hb fun h' hx=>?_
 have I1:Inv X pins σ H { s with heap:=h' }:=I.kept (t':=s.toks) fun b o e=>hx b o (Nat.ne_of_lt (Heap.lt_size e)) e
 exact h pins _ σ H xs _ Q I1 (by simpa using rv) hw
def mq (te:TE) (g:TG):TS:=fun D σ H=>te σ H fun x H1=>g x σ H1 D.nx
theorem au {i:Nat} {x:Str} {e:Expr} {te:TE} {pos':Pos} (hN:X.N.Nodup) (hi:X.N[i]?=some x) (hx:Loc X.env.scope x) (he:PE X e te) (hs:swapsWith e (some (.Name x pos')) pos.line X.env=pure false:=by rfl) (hf:X.fn x=true \/ X.env.scope.names.lookup x=some .local:=by first | exact .inl rfl | exact .inr rfl | assumption):
  PS X (.Assign [.Name x pos'] e pos) (mq te (eX i)):=by
 intro pins s σ H D I h
 refine wpAny_Assign_Name (dh (he pins s σ H _ I h) fun v s1 ⟨y,H1,I1,r1,q1⟩=>?_) hs
 exact lx I1 hN hi hx r1 (fun s2 I2=>⟨_,H1,I2,q1⟩) hf
end
section
variable {X:Cx} {pos:Pos}
def Io (c:TT) (tb:TS):TS:=fun D σ H=>∃ W:Nat->St->Hp->Prop,(∃ m,W m σ H) /\ ∀ m σ H,W m σ H->
 c σ H fun b H1=>if b=true then ∃ N:St->Hp->Prop,(∀ bM H',N bM H'->∃ m',m' < m /\ W m' bM H') /\ tb { D with nx:=N,ct:=N,bk:=D.nx } σ H1 else D.nx σ H1
theorem BC {c:Expr} {body:List Stmt} {tc:TT} {tb:TS} (hp:PassesOwn (model X.prog X.w) X.A X.env X.xe) (hc:PT X c tc) (hb:ji X body tb):PS X (.While c body [] pos) (Io tc tb):=by
 intro pins s σ H D I h
 obtain ⟨W,⟨m0,w0⟩,turn⟩:=h
 refine wpAny_While (codeAny_whileLoop (fun n s'=>∃ bM H',Inv X pins bM H' s' /\ W n bM H') ?_ m0 ⟨σ,H,I,w0⟩)
 rintro n s1 ⟨Ha,H1,I1,w1⟩
 refine wpAny_passesOwn hp (dh (hc pins s1 Ha H1 _ I1 (turn n Ha H1 w1)) fun b s2 ⟨H2,I2,q2⟩=>?_)
 cases b with
 | true=>
   obtain ⟨N,hN,q2⟩:=q2
   rw [if_pos rfl]
   refine wpAny_passesOwn hp (dh (hb pins s2 Ha H2 _ I2 q2) fun f s3 q3=>?_)
   cases f with
   | next=>
     obtain ⟨BD,H3,I3,n3⟩:=q3
     obtain ⟨m',hm,w3⟩:=hN BD H3 n3
     exact ⟨m',hm,BD,H3,I3,w3⟩
   | cont=>
     obtain ⟨BD,H3,I3,n3⟩:=q3
     obtain ⟨m',hm,w3⟩:=hN BD H3 n3
     exact ⟨m',hm,BD,H3,I3,w3⟩
   | brk=>exact q3
   | ret v=>exact q3
 | false=>
   rw [if_neg Bool.false_ne_true]
   exact wpAny_execs_nil ⟨Ha,H2,I2,q2⟩
end
structure It where
 go:Nat->Hp->Prop
 Ip:Nat->Hp->V->Hp->Prop
 stop:Nat->Hp->Prop
def kr (X:Cx) (pins:List (Addr×Obj)) (H:Hp) (b:Addr):Prop:=
 H b=none /\ b≠X.env.locals /\ b∉X.fs /\ (b∈X.ex \/ X.eJ.heap.objs.size<=b) /\ (∀ x c,X.env.cells.lookup x=some c->c≠b) /\ ∀ p∈X.pn ++ pins,p.1≠b
theorem Inv.mr {X:Cx} {pins:List (Addr×Obj)} {σ:St} {H H':Hp} {s:Shared} {b:Addr} (I:Inv X pins σ H s) (hb:s.heap.objs.size<=b) (hn:H' b=none):kr X pins H' b:=by
 refine ⟨hn,Nat.ne_of_gt (Nat.lt_of_lt_of_le I.lt hb),I.Ih hb,.inr (Nat.le_trans I.sz hb),fun x c e z=>?_,fun p hp z=>?_⟩
 ·obtain ⟨v,q⟩:=I.cell x c e
  exact absurd (Nat.lt_of_lt_of_le q.lt (by rw [z]; exact hb)) (Nat.lt_irrefl _)
 ·exact absurd (Nat.lt_of_lt_of_le (Heap.lt_size (I.pin p hp).1) (by rw [z]; exact hb)) (Nat.lt_irrefl _)
abbrev ub (X:Cx):Prop:=X.calm=true
structure yD (gd:Cx->Prop) (P:Program) (w:World) (K:PySem.W.Frag) (tg:Expr) (J:It) (fp:List Addr) (it:Addr) (tn:Nat->Heap->Prop):Prop where
 mem:it∈fp
 obj:∀ i h,tn i h->∀ b∈fp,∃ o,h.get? b=some o /\ ∀ v,o.data≠.cell v
 keep:∀ i h h',tn i h->(∀ b∈fp,∀ o,h.get? b=some o->h'.get? b=some o)->tn i h'
 item:∀ (X:Cx),X.prog=P->X.w=w->X.K=K->gd X->∀ (i:Nat) (pins:List (Addr×Obj)) (s:Shared) (σ:St) (H:Hp) (E:Value->Shared->Prop),Inv X pins σ H s->(∀ b∈fp,kr X pins H b)->tn i s.heap->J.go i H->
  wpAny (model P w) X.A (pyNext (.ref it)) (fun r s1=>∃ u,r=some u /\
   wpAny (model P w) X.A (letOwnedTupleGo tg (.ref it) u) (fun _ s2=>∃ x H',Inv X pins σ H' s2 /\ RelV x u /\ J.Ip i H x H' /\ tn (i + 1) s2.heap /\ ∀ b∈fp,H' b=none) E s1) E s
 done:∀ (X:Cx),X.prog=P->X.w=w->X.K=K->gd X->∀ (i:Nat) (pins:List (Addr×Obj)) (s:Shared) (σ:St) (H:Hp) (E:Value->Shared->Prop),Inv X pins σ H s->(∀ b∈fp,kr X pins H b)->tn i s.heap->J.stop i H->
  wpAny (model P w) X.A (pyNext (.ref it)) (fun r s1=>r=none /\ Inv X pins σ H s1) E s
 self:∀ (A:Around) (i:Nat) (s:Shared) (Q:Value->Shared->Prop) (E:Value->Shared->Prop),tn i s.heap->Q (.ref it) s->wpAny (model P w) A (pyIter (.ref it)) Q E s
abbrev Turn:=yD ub
abbrev TI:=St->Hp->(It->Hp->Prop)->Prop
def BE (gd:Cx->Prop) (X:Cx) (pins:List (Addr×Obj)) (σ:St) (tg:Expr) (R:It->Hp->Prop) (zS:Value) (s2:Shared):Prop:=
 ∃ (it:Addr) (fp:List Addr) (tn:Nat->Heap->Prop) (J:It) (H':Hp),zS=.ref it /\ Inv X pins σ H' s2 /\ yD gd X.prog X.w X.K tg J fp it tn /\ tn 0 s2.heap /\ (∀ b∈fp,kr X pins H' b) /\ R J H'
abbrev Ux:=BE ub
def Lw (gd:Cx->Prop) (X:Cx) (tg iter:Expr) (wi:TI):Prop:=
 ∀ (pins:List (Addr×Obj)) (s:Shared) (σ:St) (H:Hp) (R:It->Hp->Prop),Inv X pins σ H s->wi σ H R->
   wpAny (model X.prog X.w) X.A (eval iter X.env) (fun v s1=>wpAny (model X.prog X.w) X.A (pyIter v) (BE gd X pins σ tg R) X.xe s1) X.xe s
abbrev PI:=Lw ub
theorem uc {M:Model} {A:Around} {E:Value->Shared->Prop} {s:Shared} {tg:Expr} {it:Addr} {u:Value} {o:Obj} {n:String} {vs:Array Value} {Q:Unit->Shared->Prop} (ho:s.heap.get? it=some o) (hc:o.cls=.type n) (hd:o.data=.fields vs)
  (hn:["enumerate","zip","dict_itemiterator","dict_reverseitemiterator","odict_iterator","itertools.zip_longest","itertools.pairwise"].contains n=false) (hQ:Q () s):wpAny M A (letOwnedTupleGo tg (.ref it) u) Q E s:=by
 unfold letOwnedTupleGo
 cases tg <;> first
  | exact wpAny_pure hQ
  | (cases u <;> first
    | exact wpAny_pure hQ
    | (refine wpAny_bind (wpAny_load ho ?_)
       rw [hc,hd]
       show wpAny M A (if (["enumerate","zip","dict_itemiterator","dict_reverseitemiterator","odict_iterator","itertools.zip_longest","itertools.pairwise"].contains n && vs[0]? == some (rawInt _))=true then _ else _) Q E s
       rw [if_neg (by intro h; rw [hn,Bool.false_and] at h; cases h)]
       exact wpAny_pure hQ))
def Oq (K:PySem.W.Frag) (a:Addr):It:=
 ⟨fun i H=>∃ xs x,fY K H a xs /\ xs[i]?=some x,fun i H x H'=>H'=H /\ ∀ xs,fY K H a xs->xs[i]?=some x,fun i H=>∃ xs,fY K H a xs /\ xs.length<=i⟩
def Uy (K:PySem.W.Frag) (a:Addr):It:=
 ⟨fun i H=>∃ xs x,jk K H a xs /\ xs[i]?=some x,fun i H x H'=>H'=H /\ ∀ xs,jk K H a xs->xs[i]?=some x,fun i H=>∃ xs,jk K H a xs /\ xs.length<=i⟩
def Lx (lo:Int) (n:Nat):It:=⟨fun i _=>i < n,fun i H x H'=>H'=H /\ x=.int (lo + i),fun i _=>n<=i⟩
theorem zT {P:Program} {w:World} {K:PySem.W.Frag} {tg:Expr} (a it:Addr):Turn P w K tg (Oq K a) [it] it (fun i h=>h.IsListIter it a i) where
 mem:=by simp
 obj:=fun i h st b hb=>by
  have e:b=it:=by simpa using hb
  subst e
  obtain ⟨o,e,c,d⟩:=st
  exact ⟨o,e,fun v z=>by rw [d] at z; cases z⟩
 keep:=fun i h h' st k=>st.at fun o e=>k it (by simp) o e
 item:=by
  intro X hP hw hK hc i pins s σ H E I hf st hg
  subst hP hw hK
  obtain ⟨xs,x,hq,hx⟩:=hg
  obtain ⟨its,rv,p,hz⟩:=I.list hq
  obtain ⟨u,hu,ru⟩:=rv.get hx
  obtain ⟨f0,f1,f2,f3,f4,f5⟩:=hf it (by simp)
  refine wpAny_pyNext_list_item st p.isList (x:=u) (by simpa using hu) fun h' qj sb=>?_
  have I1:Inv X pins σ H { s with heap:=h' }:=I.turned (t':=s.toks) (fun b o hb e=>(sb.2 b hb).trans e) f0 f1 f3 f4 f5
  obtain ⟨o,e,c,d⟩:=id qj
  exact ⟨u,rfl,uc (s:={ s with heap:=h' }) e c d (by decide) ⟨x,H,I1,ru,⟨rfl,fun ys hy=>by rw [I.lz hy hq]; exact hx⟩,qj,fun b hb=>(hf b hb).1⟩⟩
 done:=by
  intro X hP hw hK hc i pins s σ H E I hf st hg
  subst hP hw hK
  obtain ⟨xs,hq,hx⟩:=hg
  obtain ⟨its,rv,p,hz⟩:=I.list hq
  obtain ⟨f0,f1,f2,f3,f4,f5⟩:=hf it (by simp)
  have hl:=rv.length
  exact wpAny_pyNext_list_end (I.ok.hd hc) st p.isList (by simp; omega) fun h' eb=>⟨rfl,I.turned (t':=s.toks) (fun b o hb e=>eb b o hb e) f0 f1 f3 f4 f5⟩
 self:=fun _ _ _ _ _ st h=>wpAny_pyIter_listiter st h
theorem wj {P:Program} {w:World} {K:PySem.W.Frag} {tg:Expr} (a it:Addr):Turn P w K tg (Uy K a) [it] it (fun i h=>h.IsTupleIter it a i) where
 mem:=by simp
 obj:=fun i h st b hb=>by
  have e:b=it:=by simpa using hb
  subst e
  obtain ⟨o,e,c,d⟩:=st
  exact ⟨o,e,fun v z=>by rw [d] at z; cases z⟩
 keep:=fun i h h' st k=>st.at fun o e=>k it (by simp) o e
 item:=by
  intro X hP hw hK hc i pins s σ H E I hf st hg
  subst hP hw hK
  obtain ⟨xs,x,hq,hx⟩:=hg
  obtain ⟨its,rv,p,hz⟩:=I.tuple hq
  obtain ⟨u,hu,ru⟩:=rv.get hx
  obtain ⟨f0,f1,f2,f3,f4,f5⟩:=hf it (by simp)
  refine wpAny_pyNext_tuple_item st (show s.heap.IsTuple a its.toArray from p) (x:=u) (by simpa using hu) fun h' qj sb=>?_
  have I1:Inv X pins σ H { s with heap:=h' }:=I.turned (t':=s.toks) (fun b o hb e=>(sb.2 b hb).trans e) f0 f1 f3 f4 f5
  obtain ⟨o,e,c,d⟩:=id qj
  exact ⟨u,rfl,uc (s:={ s with heap:=h' }) e c d (by decide) ⟨x,H,I1,ru,⟨rfl,fun ys hy=>by rw [I.mo hy hq]; exact hx⟩,qj,fun b hb=>(hf b hb).1⟩⟩
 done:=by
  intro X hP hw hK hc i pins s σ H E I hf st hg
  subst hP hw hK
  obtain ⟨xs,hq,hx⟩:=hg
  obtain ⟨its,rv,p,hz⟩:=I.tuple hq
  obtain ⟨f0,f1,f2,f3,f4,f5⟩:=hf it (by simp)
  have hl:=rv.length
  exact wpAny_pyNext_tuple_end (I.ok.hd hc) st (show s.heap.IsTuple a its.toArray from p) (by simp; omega) fun h' eb=>⟨rfl,I.turned (t':=s.toks) (fun b o hb e=>eb b o hb e) f0 f1 f3 f4 f5⟩
 self:=fun _ _ _ _ _ st h=>wpAny_pyIter_tupleiter st h
theorem wm {P:Program} {w:World} {K:PySem.W.Frag} {tg:Expr} (it:Addr) (lo:Int) (n:Nat):Turn P w K tg (Lx lo n) [it] it (fun i h=>IsRangeIter h it (lo + (i:Nat) * 1) ((n:Int) - (i:Nat)) 1) where
 mem:=by simp
 obj:=fun i h st b hb=>by
  have e:b=it:=by simpa using hb
  subst e
  exact ⟨_,st,fun v z=>by
   have z':Data.fields _=Data.cell v:=z
   cases z'⟩
 keep:=fun i h h' st k=>k it (by simp) _ st
 item:=by
  intro X hP hw hK hc i pins s σ H E I hf st hg
  subst hP hw hK
  obtain ⟨f0,f1,f2,f3,f4,f5⟩:=hf it (by simp)
  have W:=Walks.range (prog:=X.prog) (w:=X.w) (I.ok.hd hc) it lo 1 n
  refine W.item i s _ _ hg st fun v h' tk hv qj kk=>?_
  obtain ⟨t,rfl⟩:=hv
  have I1:Inv X pins σ H { s with heap:=h',toks:=tk }:=I.turned (fun b o hb e=>kk b o (by simpa using hb) e) f0 f1 f3 f4 f5
  refine ⟨_,rfl,uc (s:={ s with heap:=h',toks:=tk }) (n:="range_iterator") qj rfl rfl (by decide) ⟨.int (lo + i),H,I1,⟨t,?_⟩,⟨rfl,rfl⟩,qj,fun b hb=>(hf b hb).1⟩⟩
  rw [Int.mul_one]
 done:=by
  intro X hP hw hK hc i pins s σ H E I hf st hg
  subst hP hw hK
  obtain ⟨f0,f1,f2,f3,f4,f5⟩:=hf it (by simp)
  exact wpAny_pyNext_range_end (I.ok.hd hc) st (by have:n<=i:=hg; omega) fun h' eb=>⟨rfl,I.turned (t':=s.toks) (fun b o hb e=>eb b o hb e) f0 f1 f3 f4 f5⟩
 self:=fun _ _ _ _ _ st h=>wpAny_pyIter_rangeiter st h
section
variable {X:Cx} {tg:Expr}
theorem ud {pins:List (Addr×Obj)} {σ:St} {H:Hp} {s:Shared} {R:It->Hp->Prop} {E:Value->Shared->Prop} {lo hi:Int} {t u v:Tok} {tk:Nat} (I:Inv X pins σ H s) (h1: -(2 ^ 62)<=lo) (h2:lo < 2 ^ 62) (h3: -(2 ^ 62)<=hi) (h4:hi < 2 ^ 62)
  (q:R (Lx lo (hi - lo).toNat) H):wpAny (model X.prog X.w) X.A (pyIter (.ref s.heap.objs.size)) (Ux X pins σ tg R) E { s with heap:=s.heap.push { cls:=.type "range",data:=.fields #[.int lo t,.int hi u,.int 1 v] },toks:=tk }:=by
 refine wpAny_pyIter_range (IsRange.new ..) (small_one h1 h2 h3 h4) ?_
 have I1:Inv X pins σ H { s with heap:=s.heap.push { cls:=.type "range",data:=.fields #[.int lo t,.int hi u,.int 1 v] },toks:=tk }:=I.kept fun b o e=>Heap.get?_push_of_some _ e
 refine ⟨(s.heap.push { cls:=.type "range",data:=.fields #[.int lo t,.int hi u,.int 1 v] }).objs.size,[(s.heap.push { cls:=.type "range",data:=.fields #[.int lo t,.int hi u,.int 1 v] }).objs.size],_,_,H,rfl,
  I1.kept (t':=tk) fun b o e=>Heap.get?_push_of_some _ e,wm _ lo (hi - lo).toNat,?_,fun b hb=>?_,q⟩
 ·have e1:lo + ((0:Nat):Int) * 1=lo:=by simp
  have e2:(((hi - lo).toNat:Nat):Int) - ((0:Nat):Int)=Builtin.Range.rangeSize lo hi 1:=by rw [rangeSize_one]; split <;> omega
  show IsRangeIter _ _ (lo + ((0:Nat):Int) * 1) ((((hi - lo).toNat:Nat):Int) - ((0:Nat):Int)) 1
  rw [e1,e2]
  exact Heap.get?_push_size _ rfl
 ·have e:b=(s.heap.push { cls:=.type "range",data:=.fields #[.int lo t,.int hi u,.int 1 v] }).objs.size:=by simpa using hb
  subst e
  exact I1.mr (Nat.le_refl _) (I1.bE.fresh (Nat.le_refl _))
def Ly (ta:TA):TI:=fun σ H R=>ta σ H fun vs H1=>∃ j:Int,vs=[.int j] /\ -(2 ^ 62)<=j /\ j < 2 ^ 62 /\ R (Lx 0 j.toNat) H1
def Lz (ta:TA):TI:=fun σ H R=>ta σ H fun vs H1=>∃ i j:Int,vs=[.int i,.int j] /\ (-(2 ^ 62)<=i /\ i < 2 ^ 62 /\ -(2 ^ 62)<=j /\ j < 2 ^ 62) /\ R (Lx i (j - i).toNat) H1
theorem zU {a:Expr} {ta:TA} {p pos:Pos} (hg:Gl X "range") (hm:X.mg "range"=none) (ha:PA X [a] ta) (hs:starEach [a] X.env=[(false,eval a X.env)]:=by rfl):PI X tg (.Call (.Name "range" p) [a] [] pos) (Ly ta):=by
 intro pins s σ H R I h
 refine Call_ (ic I hg hm boot_range (PyProof.Rows.callWith_type1 (dh (ha pos pins s σ H _ I h) fun us s1 ⟨vs,H1,I1,r1,q1⟩=>?_) hs rfl))
 obtain ⟨j,e,q1,q2,q⟩:=q1
 subst e
 cases r1 with
 | cons r rr=>
   cases rr
   obtain ⟨t,rfl⟩:=r
   exact call_range_1 (ud I1 (by omega) (by omega) q1 q2 (by simpa using q))
theorem zV {a b:Expr} {ta:TA} {p pos:Pos} (hg:Gl X "range") (hm:X.mg "range"=none) (ha:PA X [a,b] ta) (hs:starEach [a,b] X.env=[(false,eval a X.env),(false,eval b X.env)]:=by rfl) (kb:starEach [b] X.env=[(false,eval b X.env)]:=by rfl):
  PI X tg (.Call (.Name "range" p) [a,b] [] pos) (Lz ta):=by
 intro pins s σ H R I h
 refine Call_ (ic I hg hm boot_range (PyProof.Rows.callWith_type1 (dh (ha pos pins s σ H _ I h) fun us s1 ⟨vs,H1,I1,r1,q1⟩=>?_) (by rw [hs,kb]) (by rw [kb]; rfl)))
 obtain ⟨i,j,e,⟨q1,q2,q3,q4⟩,q⟩:=q1
 subst e
 cases r1 with
 | cons r rr=>
   cases rr with
   | cons r' rr=>
     cases rr
     obtain ⟨t,rfl⟩:=r
     obtain ⟨t',rfl⟩:=r'
     exact call_range_2 (ud I1 q1 q2 q3 q4 q)
def Ot (wi:TI) (g:TG) (tb:TS):TS:=fun D σ H=>wi σ H fun J H1=>∃ W:Nat->Nat->St->Hp->Prop,(∃ m,W 0 m σ H1) /\ ∀ i m σ H,W i m σ H->
 (J.stop i H /\ D.nx σ H) \/ (J.go i H /\ ∃ N:St->Hp->Prop,(∀ bM H',N bM H'->∃ m',m' < m /\ W (i + 1) m' bM H') /\ ∀ x H',J.Ip i H x H'->g x σ H' fun Uz H2=>tb { D with nx:=N,ct:=N,bk:=D.nx } Uz H2)
def ie (fp:List Addr) (h:Heap):List (Addr×Obj):=fp.filterMap fun b=>(h.get? b).map fun o=>(b,o)
theorem dn {fp:List Addr} {h:Heap} {b:Addr} {o:Obj} (hb:b∈fp) (e:h.get? b=some o):(b,o)∈ie fp h:=List.mem_filterMap.mpr ⟨b,hb,by rw [e]; rfl⟩
theorem mw {fp:List Addr} {h:Heap} {p:Addr×Obj} (hp:p∈ie fp h):p.1∈fp /\ h.get? p.1=some p.2:=by
 obtain ⟨b,hb,e⟩:=List.mem_filterMap.mp hp
 cases q:h.get? b with
 | none=>rw [q] at e; cases e
 | some o=>
   rw [q] at e
   have e':(b,o)=p:=Option.some.inj e
   subst e'
   exact ⟨hb,q⟩
theorem Inv.pinned {pins:List (Addr×Obj)} {σ:St} {H:Hp} {s:Shared} {fp:List Addr} (I:Inv X pins σ H s) (hf:∀ b∈fp,kr X pins H b) (ho:∀ b∈fp,∃ o,s.heap.get? b=some o /\ ∀ v,o.data≠.cell v):Inv X (pins ++ ie fp s.heap) σ H s:=
 I.fX fun p hp=>(List.mem_append.mp hp).elim (fun z=>I.pin p (List.mem_append_right _ z)) fun z=>by
  obtain ⟨hb,e⟩:=mw z
  obtain ⟨f0,f1,f2,_⟩:=hf p.1 hb
  obtain ⟨o,e',d⟩:=ho p.1 hb
  rw [e] at e'; cases e'
  exact ⟨e,f0,f1,f2,d⟩
theorem Inv.ou {pins pl:List (Addr×Obj)} {σ:St} {H:Hp} {s:Shared} (I:Inv X (pins ++ pl) σ H s):Inv X pins σ H s:=I.fX fun p hp=>I.pin p (List.mem_append_right _ (List.mem_append_left _ hp))
theorem BF {iter:Expr} {body:List Stmt} {wi:TI} {g:TG} {tb:TS} {pos:Pos} (hp:PassesOwn (model X.prog X.w) X.A X.env X.xe) (hc:X.calm=true) (hi:PI X tg iter wi) (hg:PG X tg g) (hb:ji X body tb)
  (hs:∀ x,foldedSetIterable iter X.env x=pure x:=by intro _; rfl):PS X (.For tg iter body [] pos) (Ot wi g tb):=by
 intro pins s σ H D I h
 refine wpAny_For (dh (hi pins s σ H _ I h) fun v s1 h1=>dh h1 fun zS s2 h2=>?_) hs
 obtain ⟨it,fp,tn,J,H2,e,I2,T,gz,f2,W,⟨m0,w0⟩,turn⟩:=h2
 subst e
 have oy:∀ {H':Hp},(∀ b∈fp,H' b=none)->∀ b∈fp,kr X pins H' b:=fun hn b hb=>⟨hn b hb,(f2 b hb).2⟩
 refine codeAny_forLoop_any (fun n s'=>∃ i bM H',Inv X pins bM H' s' /\ tn i s'.heap /\ (∀ b∈fp,H' b=none) /\ W i n bM H') ?_ m0 ⟨0,σ,H2,I2,gz,fun b hb=>(f2 b hb).1,w0⟩
 rintro n s3 ⟨i,BD,H3,I3,He,UA,w3⟩
 rcases turn i n BD H3 w3 with ⟨stop,qn⟩ | ⟨go,N,hN,step⟩
 ·refine wpAny_passesOwn hp (dh (T.done X rfl rfl rfl hc i pins s3 BD H3 X.xe I3 (oy UA) He stop) fun r s4 ⟨hr,I4⟩=>?_)
  subst hr
  exact wpAny_execs_nil ⟨BD,H3,I4,qn⟩
 ·refine wpAny_passesOwn hp (dh (T.item X rfl rfl rfl hc i pins s3 BD H3 X.xe I3 (oy UA) He go) fun r s4 ⟨u,hr,h4⟩=>?_)
  subst hr
  refine wpAny_passesOwn hp (dh h4 fun _ s5 ⟨x,H5,I5,r5,y5,wq,Iq⟩=>?_)
  have LA:=I5.pinned (oy Iq) (T.obj _ _ wq)
  refine wpAny_passesOwn hp (dh (hg _ s5 BD H5 x u _ LA r5 (step x H5 y5)) fun _ s6 ⟨VN,H6,I6,q6⟩=>?_)
  refine wpAny_passesOwn hp (dh (hb _ s6 VN H6 _ I6 q6) fun f s7 q7=>?_)
  have again:∀ {BG:St} {H7:Hp},Inv X (pins ++ ie fp s5.heap) BG H7 s7->N BG H7->∃ m,m < n /\ ∃ i bM H',Inv X pins bM H' s7 /\ tn i s7.heap /\ (∀ b∈fp,H' b=none) /\ W i m bM H':=fun {BG H7} I7 n7=>by
   obtain ⟨m',hm,w7⟩:=hN BG H7 n7
   refine ⟨m',hm,i + 1,BG,H7,I7.ou,T.keep _ _ _ wq fun b hb o e=>(I7.pin (b,o) (List.mem_append_right _ (List.mem_append_right _ (dn hb e)))).1,fun b hb=>?_,w7⟩
   obtain ⟨o,e,d⟩:=T.obj _ _ wq b hb
   exact (I7.pin (b,o) (List.mem_append_right _ (List.mem_append_right _ (dn hb e)))).2.1
  cases f with
  | next=>obtain ⟨BG,H7,I7,n7⟩:=q7; exact again I7 n7
  | cont=>obtain ⟨BG,H7,I7,n7⟩:=q7; exact again I7 n7
  | brk=>obtain ⟨BG,H7,I7,q7⟩:=q7; exact ⟨BG,H7,I7.ou,q7⟩
  | ret v=>obtain ⟨x7,BG,H7,I7,r7,q7⟩:=q7; exact ⟨x7,BG,H7,I7.ou,r7,q7⟩
end
abbrev R2:=V->V->Hp->VK->Prop
def gH (X:Cx) (f:Value->Value->Sem Value) (r:R2):Prop:=
 ∀ (pins:List (Addr×Obj)) (s:Shared) (σ:St) (H:Hp) (x y:V) (v u:Value) (Q:VK),Inv X pins σ H s->RelV x v->RelV y u->r x y H Q->
   wpAny (model X.prog X.w) X.A (f v u) (EP X pins σ Q) X.xe s
def Ou (X:Cx) (f:Value->Sem Value) (r:V->Hp->VK->Prop):Prop:=
 ∀ (pins:List (Addr×Obj)) (s:Shared) (σ:St) (H:Hp) (x:V) (v:Value) (Q:VK),Inv X pins σ H s->RelV x v->r x H Q->
   wpAny (model X.prog X.w) X.A (f v) (EP X pins σ Q) X.xe s
def dU (X:Cx) (f:Value) (r:List V->Hp->VK->Prop):Prop:=
 ∀ (pins:List (Addr×Obj)) (s:Shared) (σ:St) (H:Hp) (xs:List V) (us:List Value) (Q:VK),Inv X pins σ H s->bf xs us->r xs H Q->
   wpAny (model X.prog X.w) X.A (call f us) (EP X pins σ Q) X.xe s
def Ov (X:Cx) (r:V->Hp->(Bool->Hp->Prop)->Prop):Prop:=
 ∀ (pins:List (Addr×Obj)) (s:Shared) (σ:St) (H:Hp) (x:V) (v:Value) (Q:Bool->Hp->Prop),Inv X pins σ H s->RelV x v->r x H Q->
   wpAny (model X.prog X.w) X.A (truthy v) (TP X pins σ Q) X.xe s
def KL (r:R2) (ta tb:TE):TE:=fun σ H Q=>ta σ H fun x H1=>tb σ H1 fun y H2=>r x y H2 Q
def VO (r:V->Hp->VK->Prop) (ta:TE):TE:=fun σ H Q=>ta σ H fun x H1=>r x H1 Q
def rI (C:Int->Int->Prop) (g:Int->Int->V):R2:=fun x y H Q=>∃ i j,x=.int i /\ y=.int j /\ C i j /\ Q (g i j) H
def BH (g:Int->Int->V):R2:=fun x y H Q=>∃ i j,x=.int i /\ y=.int j /\ Q (g i j) H
def rU (g:Int->V):V->Hp->VK->Prop:=fun x H Q=>∃ i,x=.int i /\ Q (g i) H
section
variable {X:Cx} {a b c:Expr} {ta tb tc:TE} {pos:Pos}
theorem Ir (ha:PE X a ta) (hb:PE X b tb) {pins:List (Addr×Obj)} {s:Shared} {σ:St} {H:Hp} {R:V->V->Hp->Prop} (I:Inv X pins σ H s)
  (h:ta σ H fun x H1=>tb σ H1 fun y H2=>R x y H2) {Q:Value->Shared->Prop} {f:Value->Value->Sem Value}
  (hf:∀ v u s2 x y H2,Inv X pins σ H2 s2->RelV x v->RelV y u->R x y H2->wpAny (model X.prog X.w) X.A (f v u) Q X.xe s2):
  wpAny (model X.prog X.w) X.A (eval a X.env) (fun v bu=>wpAny (model X.prog X.w) X.A (eval b X.env) (fun u kc=>wpAny (model X.prog X.w) X.A (f v u) Q X.xe kc) X.xe bu) X.xe s:=by
 refine dh (ha pins s σ H _ I h) fun v s1 ⟨x,H1,I1,r1,q1⟩=>?_
 refine dh (hb pins s1 σ H1 _ I1 q1) fun u s2 ⟨y,H2,I2,r2,q2⟩=>?_
 exact hf v u s2 x y H2 I2 r1 r2 q2
theorem Hf {op:Operator} {r:R2} (ho:gH X (binaryOp op) r) (ha:PE X a ta) (hb:PE X b tb):PE X (.BinOp a op b pos) (KL r ta tb):=by
 intro pins s σ H Q I h
 exact wpAny_BinOp (Ir ha hb I h fun v u s2 x y H2 I2 rx ry q=>ho pins s2 σ H2 x y v u Q I2 rx ry q)
theorem LB {op:UnaryOp} {r:V->Hp->VK->Prop} (ho:Ou X (unaryOp op) r) (ha:PE X a ta):PE X (.UnaryOp op a pos) (VO r ta):=by
 intro pins s σ H Q I h
 exact UnaryOp_ (dh (ha pins s σ H _ I h) fun v s1 ⟨x,H1,I1,r1,q1⟩=>ho pins s1 σ H1 x v Q I1 r1 q1)
theorem LC {f:Value->Value->Sem Value} {C:Int->Int->Prop} {g:Int->Int->Int}
  (rule:∀ (i j:Int) (t u:Tok) (s:Shared) (Q:Value->Shared->Prop) (E:Value->Shared->Prop),C i j->Q (.int (g i j) s.toks) { s with toks:=s.toks + 1 }->wpAny (model X.prog X.w) X.A (f (.int i t) (.int j u)) Q E s):
  gH X f (rI C fun i j=>.int (g i j)):=by
 intro pins s σ H x y v u Q I rx ry h
 obtain ⟨i,j,rfl,rfl,hc,q⟩:=h
 obtain ⟨t,rfl⟩:=rx
 obtain ⟨t',rfl⟩:=ry
 exact rule i j t t' s _ _ hc ⟨.int (g i j),H,I.tok _,⟨_,rfl⟩,q⟩
theorem LD {f:Value->Value->Sem Value} {g:Int->Int->Int}
  (rule:∀ (i j:Int) (t u:Tok) (s:Shared) (Q:Value->Shared->Prop) (E:Value->Shared->Prop),Q (.int (g i j) s.toks) { s with toks:=s.toks + 1 }->wpAny (model X.prog X.w) X.A (f (.int i t) (.int j u)) Q E s):
  gH X f (BH fun i j=>.int (g i j)):=by
 intro pins s σ H x y v u Q I rx ry h
 obtain ⟨i,j,rfl,rfl,q⟩:=h
 obtain ⟨t,rfl⟩:=rx
 obtain ⟨t',rfl⟩:=ry
 exact rule i j t t' s _ _ ⟨.int (g i j),H,I.tok _,⟨_,rfl⟩,q⟩
theorem EW {f:Value->Value->Sem Value} {g:Int->Int->Bool}
  (rule:∀ (i j:Int) (t u:Tok) (s:Shared) (Q:Value->Shared->Prop) (E:Value->Shared->Prop),Q (.bool (g i j)) s->wpAny (model X.prog X.w) X.A (f (.int i t) (.int j u)) Q E s):
  gH X f (BH fun i j=>.bl (g i j)):=by
 intro pins s σ H x y v u Q I rx ry h
 obtain ⟨i,j,rfl,rfl,q⟩:=h
 obtain ⟨t,rfl⟩:=rx
 obtain ⟨t',rfl⟩:=ry
 exact rule i j t t' s _ _ ⟨.bl (g i j),H,I,rfl,q⟩
def Iu (i j:Int):Prop:=0<=j /\ j<=1000000 /\ i.natAbs < 2 ^ 64
theorem wt (k:Nat):(0:Int)<=2 ^ k:=by
 rw [two_pow_cast]
 exact Int.natCast_nonneg _
theorem Iv:gH X (binaryOp .Add) (BH fun i j=>.int (i + j)):=LD fun _ _ _ _ _ _ _ q=>add_int q
theorem eZ:gH X (binaryOp .Sub) (BH fun i j=>.int (i - j)):=LD fun _ _ _ _ _ _ _ q=>sub_int q
theorem cQ:gH X (binaryOp .Mod) (rI (fun _ j=>j≠0) fun i j=>.int (i.fmod j)):=LC fun _ _ _ _ _ _ _ hc q=>mod_int' hc q
theorem Iw:gH X (binaryOp .Pow) (rI Iu fun i j=>.int (i ^ j.toNat)):=LC fun _ _ _ _ _ _ _ hc q=>pow_int_small hc.1 hc.2.1 hc.2.2 q
theorem wu:gH X (binaryOp .RShift) (rI (fun _ j=>0<=j) fun i j=>.int (i / 2 ^ j.toNat)):=LC fun i j _ _ _ _ _ hc q=>
 rshift_int hc (by rw [Int.fdiv_eq_ediv_of_nonneg i (wt _)]; exact q)
theorem VP {f:Value->Sem Value} {g:Int->Int}
  (rule:∀ (i:Int) (t:Tok) (s:Shared) (Q:Value->Shared->Prop) (E:Value->Shared->Prop),Q (.int (g i) s.toks) { s with toks:=s.toks + 1 }->wpAny (model X.prog X.w) X.A (f (.int i t)) Q E s):
  Ou X f (rU fun i=>.int (g i)):=by
 intro pins s σ H x v Q I rx h
 obtain ⟨i,rfl,q⟩:=h
 obtain ⟨t,rfl⟩:=rx
 exact rule i t s _ _ ⟨.int (g i),H,I.tok _,⟨_,rfl⟩,q⟩
theorem Iy:Ou X (unaryOp .USub) (rU fun i=>.int (-i)):=VP fun _ _ _ _ _ q=>neg_int q
end
section
variable {X:Cx} {a b c:Expr} {ta tb tc:TE} {pos:Pos}
theorem oz:gH X (compareOp .Lt) (BH fun i j=>.bl (decide (i < j))):=EW fun _ _ _ _ _ _ _ q=>lt_int q
theorem LF:gH X (compareOp .LtE) (BH fun i j=>.bl (decide (i<=j))):=EW fun _ _ _ _ _ _ _ q=>le_int q
theorem ni:gH X (compareOp .Gt) (BH fun i j=>.bl (decide (j < i))):=EW fun _ _ _ _ _ _ _ q=>gt_int q
theorem LG:gH X (compareOp .GtE) (BH fun i j=>.bl (decide (j<=i))):=EW fun _ _ _ _ _ _ _ q=>ge_int q
theorem gH.or {f:Value->Value->Sem Value} {r r':R2} (h:gH X f r) (h':gH X f r'):gH X f (fun x y H Q=>r x y H Q \/ r' x y H Q):=by
 intro pins s σ H x y v u Q I rx ry q
 rcases q with q | q
 ·exact h pins s σ H x y v u Q I rx ry q
 ·exact h' pins s σ H x y v u Q I rx ry q
theorem bQ (b:Expr) {op:CmpOp} (h:op≠.In:=by decide) (h2:op≠.NotIn:=by decide):behindInMarks op b=false:=by
 have e1:(op == CmpOp.In)=false:=by cases op <;> first | rfl | exact absurd rfl h
 have e2:(op == CmpOp.NotIn)=false:=by cases op <;> first | rfl | exact absurd rfl h2
 cases b <;> simp [behindInMarks,e1,e2]
theorem EX {op:CmpOp} {r:R2} (ho:gH X (compareOp op) r) (ha:PE X a ta) (hb:PE X b tb) (hm:behindInMarks op b=false):PE X (.Compare a [op] [b] pos) (KL r ta tb):=by
 intro pins s σ H Q I h
 exact wpAny_Compare1 (Ir ha hb I h fun v u s2 x y H2 I2 rx ry q=>ho pins s2 σ H2 x y v u Q I2 rx ry q) hm
def Hg (t:TE):TT:=fun σ H Q=>t σ H fun x H'=>∃ k,x=.bl k /\ Q k H'
theorem EY {op:CmpOp} {r:R2} (ho:gH X (compareOp op) r) (ha:PE X a ta) (hb:PE X b tb) (hm:behindInMarks op b=false):PT X (.Compare a [op] [b] pos) (Hg (KL r ta tb)):=by
 intro pins s σ H Q I h
 refine wpAny_isTrue_Compare1 (dh (ha pins s σ H _ I h) fun v s1 ⟨x,H1,I1,r1,q1⟩=>dh (hb pins s1 σ H1 _ I1 q1) fun u s2 ⟨y,H2,I2,r2,q2⟩=>
  dh (ho pins s2 σ H2 x y v u _ I2 r1 r2 q2) fun c s3 ⟨z,H3,I3,r3,k,e,q3⟩=>?_) hm
 subst e
 cases r3
 exact wpAny_truthy_bool ⟨H3,I3,q3⟩
def wx (r r':R2) (ta tb tc:TE):TE:=fun σ H Q=>ta σ H fun x H1=>tb σ H1 fun y H2=>r x y H2 fun z H3=>∃ k,z=.bl k /\
 (if k=true then tc σ H3 fun w' H4=>r' y w' H4 Q else Q (.bl false) H3)
theorem BI {op wy:CmpOp} {r r':R2} (ho:gH X (compareOp op) r) (tW:gH X (compareOp wy) r') (ha:PE X a ta) (hb:PE X b tb) (hc:PE X c tc)
  (hm:lastMarks [op,wy] [b,c]=false:=by with_unfolding_all rfl):PE X (.Compare a [op,wy] [b,c] pos) (wx r r' ta tb tc):=by
 intro pins s σ H Q I h
 refine Compare_chain (dh (ha pins s σ H _ I h) fun v s1 ⟨x,H1,I1,r1,q1⟩=>chain_link (dh (hb pins s1 σ H1 _ I1 q1) fun u s2 ⟨y,H2,I2,r2,q2⟩=>
  dh (ho pins s2 σ H2 x y v u _ I2 r1 r2 q2) fun d s3 ⟨z,H3,I3,r3,k,e,q3⟩=>?_)) hm
 subst e
 cases r3
 refine wpAny_truthy_bool ?_
 cases k with
 | false=>exact ite_ff ⟨.bl false,H3,I3,rfl,q3⟩
 | true=>exact ite_tt (chain_last (dh (hc pins s3 σ H3 _ I3 q3) fun w' s4 ⟨z',H4,I4,r4,q4⟩=>tW pins s4 σ H4 y z' u w' Q I4 r2 r4 q4))
theorem BJ {op wy:CmpOp} {r r':R2} (ho:gH X (compareOp op) r) (tW:gH X (compareOp wy) r') (ha:PE X a ta) (hb:PE X b tb) (hc:PE X c tc)
  (hm:lastMarks [op,wy] [b,c]=false:=by with_unfolding_all rfl):PT X (.Compare a [op,wy] [b,c] pos) (Hg (wx r r' ta tb tc)):=by
 intro pins s σ H Q I h
 refine isTrue_chain (dh (ha pins s σ H _ I h) fun v s1 ⟨x,H1,I1,r1,q1⟩=>test_link (dh (hb pins s1 σ H1 _ I1 q1) fun u s2 ⟨y,H2,I2,r2,q2⟩=>
  dh (ho pins s2 σ H2 x y v u _ I2 r1 r2 q2) fun d s3 ⟨z,H3,I3,r3,k,e,q3⟩=>?_)) hm
 subst e
 cases r3
 refine wpAny_truthy_bool ?_
 cases k with
 | false=>
   obtain ⟨k',e',q'⟩:=q3
   cases e'
   exact ite_ff ⟨H3,I3,q'⟩
 | true=>
   refine ite_tt (test_last (dh (hc pins s3 σ H3 _ I3 q3) fun w' s4 ⟨z',H4,I4,r4,q4⟩=>dh (tW pins s4 σ H4 y z' u w' _ I4 r2 r4 q4) fun d' s5 ⟨z2,H5,I5,r5,k2,e2,q5⟩=>?_))
   subst e2
   cases r5
   exact wpAny_truthy_bool ⟨H5,I5,q5⟩
def LH (K:PySem.W.Frag) (x:V) (H:Hp) (k:Bool):Prop:=
 match x with
 | .gU=>k=false
 | .bl b=>k=b
 | .int i=>k=(i != 0)
 | .str y=>y.length<=sizeLine /\ k=((y.length:Int) != 0)
 | .Ld y=>y.size<=sizeLine /\ k=((y.size:Int) != 0)
 | .ref p=>(∃ xs,fY K H p xs /\ k= !xs.isEmpty) \/ (∃ xs,jk K H p xs /\ k= !xs.isEmpty) \/ ∃ aK,H p=some (.dK aK) /\ k= !aK.isEmpty
 | _=>False
theorem wz {κ:Type} {aK:List (κ×V)} {vs:List (κ×Value)} (r:KV aK vs):(!vs.isEmpty)= !aK.isEmpty:=by
 cases r <;> rfl
theorem oA {xs:List V} {its:List Value} (r:bf xs its):(!its.toArray.isEmpty)= !xs.isEmpty:=by
 cases r <;> simp
theorem mx:(sizeLine:Nat) < 2 ^ 63:=by rw [sizeLine_eq]; decide
theorem Iz:Ov X (fun x H Q=>∃ k,LH X.K x H k /\ Q k H):=by
 intro pins s σ H x v Q I rx h
 obtain ⟨k,e,q⟩:=h
 have hl:=mx
 have hs:sizeLine=16777216:=sizeLine_eq
 cases x with
 | gU=>
   cases rx
   have e':k=false:=e
   subst e'
   exact truthy_none ⟨H,I,q⟩
 | bl b=>
   cases rx
   have e':k=b:=e
   subst e'
   exact wpAny_truthy_bool ⟨H,I,q⟩
 | int i=>
   obtain ⟨t,rfl⟩:=rx
   have e':k=(i != 0):=e
   subst e'
   exact PySem.P.truthy_int ⟨H,I,q⟩
 | str y=>
   obtain ⟨t,rfl⟩:=rx
   obtain ⟨hy,e'⟩:y.length<=sizeLine /\ k=((y.length:Int) != 0):=e
   subst e'
   exact PySem.P.truthy_str (by omega) ⟨H,I.tok _,q⟩
 | Ld y=>
   obtain ⟨t,rfl⟩:=rx
   obtain ⟨hy,e'⟩:y.size<=sizeLine /\ k=((y.size:Int) != 0):=e
   subst e'
   exact PySem.W.truthy_bytes (by omega) ⟨H,I.tok _,q⟩
 | ref p=>
   cases rx
   have e':(∃ xs,fY X.K H p xs /\ k= !xs.isEmpty) \/ (∃ xs,jk X.K H p xs /\ k= !xs.isEmpty) \/ ∃ aK,H p=some (.dK aK) /\ k= !aK.isEmpty:=e
   rcases e' with ⟨xs,hx,e'⟩ | ⟨xs,hx,e'⟩ | ⟨aK,hx,e'⟩
   ·subst e'
    obtain ⟨its,r,pl,hz⟩:=I.list hx
    have hlen:=r.length
    exact wpAny_truthy_list pl.isList (by simp only [List.size_toArray]; omega) ⟨H,I.tok _,by rw [oA r]; exact q⟩
   ·subst e'
    obtain ⟨its,r,pl,hz⟩:=I.tuple hx
    have hlen:=r.length
    exact truthy_tuple pl (by simp only [List.size_toArray]; omega) ⟨H,I.tok _,by rw [oA r]; exact q⟩
   ·subst e'
    obtain ⟨hz,hS,vs,r,m⟩:aK.length<=sizeLine /\ (p == sysModules)=false /\ ∃ vs,KV aK vs /\ s.heap.DictOf (cE X.prog X.w) p vs:=I.bE p _ hx
    have hlen:aK.length=vs.length:=Paired.length r
    exact wpAny_truthy_dict hS m (by omega) ⟨H,I.tok _,by rw [wz r]; exact q⟩
 | _=>exact (show False from e).elim
theorem BK (ha:PE X a ta) (he:∀ whole,isTrue a X.env whole=(do let v <- whole; standAt a.pos; holding [v] (truthy v))):
  PT X a (fun σ H Q=>ta σ H fun x H'=>∃ k,LH X.K x H' k /\ Q k H'):=by
 intro pins s σ H Q I h
 exact isTrue_plain (dh (ha pins s σ H _ I h) fun v s1 ⟨x,H1,I1,r1,q1⟩=>Iz pins s1 σ H1 x v Q I1 r1 q1) (he _)
theorem wA:gH X (binaryOp .Add) (fun x y H Q=>∃ i j,x=.str i /\ y=.str j /\ i.length + j.length<=sizeLine /\ Q (.str (i ++ j)) H):=by
 intro pins s σ H x y v u Q I rx ry h
 obtain ⟨i,j,rfl,rfl,hz,q⟩:=h
 obtain ⟨t,rfl⟩:=rx
 obtain ⟨t',rfl⟩:=ry
 exact add_str (fun t' tk=>⟨.str (i ++ j),H,I.tok _,⟨_,rfl⟩,q⟩) hz
theorem vals1 {x:V} {us:List Value} (r:bf [x] us):∃ u,us=[u] /\ RelV x u:=by
 cases r with
 | cons r1 r2=>cases r2; exact ⟨_,rfl,r1⟩
theorem vals2 {x y:V} {us:List Value} (r:bf [x,y] us):∃ u w',us=[u,w'] /\ RelV x u /\ RelV y w':=by
 cases r with
 | cons r1 r2=>
   cases r2 with
   | cons r3 r4=>cases r4; exact ⟨_,_,rfl,r1,r3⟩
theorem jr:dU X (.builtin "abs") (fun xs H Q=>∃ i,xs=[.int i] /\ Q (.int (if i < 0 then -i else i)) H):=by
 intro pins s σ H xs us Q I r h
 obtain ⟨i,rfl,q⟩:=h
 obtain ⟨u,rfl,t,rfl⟩:=vals1 r
 exact call_abs_int fun u tk=>⟨.int (if i < 0 then -i else i),H,I.tok _,⟨_,rfl⟩,q⟩
theorem qM (hc:X.calm=true):dU X (.builtin "max") (fun xs H Q=>∃ i j,xs=[.int i,.int j] /\ Q (.int (if j > i then j else i)) H):=by
 intro pins s σ H xs us Q I r h
 obtain ⟨i,j,rfl,q⟩:=h
 obtain ⟨u,w',rfl,⟨t,rfl⟩,⟨t',rfl⟩⟩:=vals2 r
 refine max_two_ints (I.ok.hd hc) fun h' tk k=>⟨_,H,I.kept k,?_,q⟩
 by_cases hj:j > i
 ·rw [if_pos hj,if_pos hj]; exact ⟨_,rfl⟩
 ·rw [if_neg hj,if_neg hj]; exact ⟨_,rfl⟩
theorem zW (hc:X.calm=true):dU X (.builtin "min") (fun xs H Q=>∃ i j,xs=[.int i,.int j] /\ Q (.int (if j < i then j else i)) H):=by
 intro pins s σ H xs us Q I r h
 obtain ⟨i,j,rfl,q⟩:=h
 obtain ⟨u,w',rfl,⟨t,rfl⟩,⟨t',rfl⟩⟩:=vals2 r
 refine min_two_ints (I.ok.hd hc) fun h' tk k=>⟨_,H,I.kept k,?_,q⟩
 by_cases hj:j < i
 ·rw [if_pos hj,if_pos hj]; exact ⟨_,rfl⟩
 ·rw [if_neg hj,if_neg hj]; exact ⟨_,rfl⟩
theorem zX:dU X (.type "int") (fun xs H Q=>(∃ i,xs=[.int i] /\ Q (.int i) H) \/ ∃ k,xs=[.bl k] /\ Q (.int (if k then 1 else 0)) H):=by
 intro pins s σ H xs us Q I r h
 rcases h with ⟨i,rfl,q⟩ | ⟨k,rfl,q⟩
 ·obtain ⟨u,rfl,t,rfl⟩:=vals1 r
  exact call_int_int ⟨.int i,H,I,⟨_,rfl⟩,q⟩
 ·obtain ⟨u,rfl,r1⟩:=vals1 r
  cases r1
  exact call_int_bool ⟨.int (if k then 1 else 0),H,I.tok _,⟨_,rfl⟩,q⟩
end
section
variable {prog:Program} {w:World} {A:Around} {E:Value->Shared->Prop} {s:Shared} {K:PySem.W.Frag} {x dx C f:Addr} {mA:Str->Option Value} {name:Str} {v:Value}
end
theorem nF.some_of {v:V} {o:Option Value} (r:nF (some v) o):∃ u,o=some u /\ RelV v u:=by
 cases o with
 | none=>exact (show False from r).elim
 | some u=>exact ⟨u,rfl,r⟩
section
variable {P:Program} {w:World} {H H':Hp} {h h':Heap} {a C dx:Addr} {fs VJ:List (Str×V)}
end
structure VQ (K:PySem.W.Frag) (C:Addr):Prop where
 pg:PySem.W.plainGet K C Str.empty=true
 hd:PySem.W.hasDictIn K C=true
 po:PySem.W.plainOver K C=true
 sa:PySem.W.findIn K (.ref C) "__setattr__"=some (some (.builtin "object.__setattr__"))
section
variable {X:Cx} {pins:List (Addr×Obj)} {σ:St} {H:Hp} {s:Shared} {a C dx:Addr} {fs:List (Str×V)} {f:Str} {v:V} {A:Around} {E:Value->Shared->Prop}
end
section
variable {X:Cx} {o e value:Expr} {f:Str} {pos pos' ig:Pos} {ta tv:TE}
end
section
variable {X:Cx} {pins:List (Addr×Obj)} {σ:St} {H:Hp} {s:Shared} {A:Around} {E:Value->Shared->Prop} {Q:Value->Shared->Prop} {c:Value} {b:Bool}
inductive oB (K:PySem.W.Frag) (H:Hp):V->Value->Prop where
 | gU:oB K H .gU (.type "NoneType")
 | bl (x:Bool):oB K H (.bl x) (.type "bool")
 | int (i:Int):oB K H (.int i) (.type "int")
 | str (x:Str):oB K H (.str x) (.type "str")
 | Le (x:UInt64):oB K H (.Le x) (.type "float")
 | lst {a:Addr} {xs:List V} (e:H a=some (.lst xs)):oB K H (.ref a) (.type "list")
 | qe {a:Addr} {o:Obj} {xs:List V} (e:H a=some (.qe o (.lst xs))):oB K H (.ref a) (.type "list")
 | tup {a:Addr} {xs:List V} (e:H a=some (.tup xs)):oB K H (.ref a) (.type "tuple")
 | dK {a:Addr} {aK:List (Key×V)} (e:H a=some (.dK aK)):oB K H (.ref a) (.type "dict")
 | dT {a:Addr} {aK:List (List Key×V)} (e:H a=some (.dT aK)):oB K H (.ref a) (.type "dict")
 | ins {a C dx:Addr} {fs:List (Str×V)} (e:H a=some (.ins C dx fs)) (cl:VQ K C) (ha:PySem.W.findIn K (.ref C) "__class__"=some (some (.builtin "object.__class__")))
   (hn:PySem.W.specialIn K (.builtin "object.__class__") "__get__"=some (some (.builtin "getset_descriptor.__get__"))) (UB:PySem.W.takesIn K (.builtin "object.__class__")=some true)
   (hm:PySem.W.mroIn K C (.type "object")=some true):oB K H (.ref a) (.ref C)
end
structure dq (k:Nat) (A:Around):Prop where
 hd:A.handled=none
 dp:A.depth + 3 * k + 5 < recursionLimit
 un:A.units + 16 * k + 200 < cLine
theorem dq.mono {j k:Nat} {A:Around} (r:dq k A) (h:j<=k):dq j A:=⟨r.hd,by have:=r.dp; omega,by have:=r.un; omega⟩
theorem dq.deeper {k:Nat} {A:Around} (r:dq (k + 1) A) (env:Env):dq k (A.deeper env):=
 ⟨r.hd,by have:=r.dp; show A.depth + 1 + 3 * k + 5 < _; omega,by have:=r.un; show A.units + 3 + 16 * k + 200 < _; omega⟩
theorem dq.depth {k:Nat} {A:Around} (r:dq k A):A.depth < recursionLimit:=by have:=r.dp; omega
theorem dq.units {k:Nat} {A:Around} (r:dq k A):A.units + 64 < cLine:=by have:=r.un; omega
def EZ:TA:=fun _ H Q=>Q [] H
def yE (ta:TE) (tr:TA):TA:=fun σ H Q=>ta σ H fun x H1=>tr σ H1 fun xs H2=>Q (x :: xs) H2
section
variable {X:Cx} {e:Expr} {es:List Expr} {te:TE} {t:TA} {pos:Pos}
theorem df:PA X [] EZ:=fun _ _ _ _ H Q I h=>Calls.spliced_nil ⟨[],H,I,.nil,h⟩
theorem bU (ha:PE X e te) (hr:PA X es t) (hs:starEach (e :: es) X.env=(false,eval e X.env) :: starEach es X.env:=by rfl):PA X (e :: es) (yE te t):=by
 intro pos pins s σ H Q I h
 rw [hs]
 show wpAny _ _ (spliced ((false,eval e X.env) :: backTo pos (starEach es X.env))) _ _ s
 refine Calls.spliced_cons (dh (ha pins s σ H _ I h) fun u s1 ⟨x,H1,I1,r1,q1⟩=>?_)
 exact dh (hr pos pins s1 σ H1 _ I1 q1) fun us s2 ⟨xs,H2,I2,r2,q2⟩=>⟨x :: xs,H2,I2,.cons r1 r2,q2⟩
def Ow (t:TA):TE:=fun σ H Q=>t σ H fun xs H1=>xs.length<=sizeLine /\ ∀ p,H1 p=none->Q (.ref p) (upd H1 p (.tup xs))
def Ox (t:TA):TE:=fun σ H Q=>t σ H fun xs H1=>xs.length<=sizeLine /\ ∀ p,H1 p=none->Q (.ref p) (upd H1 p (.lst xs))
theorem IA {x1} (h:PA X es t):PE X (.Tuple es x1 pos) (Ow t):=by
 intro pins s σ H Q I hq
 refine wpAny_Tuple_spliced (dh (h pos pins s σ H _ I hq) fun us s1 ⟨xs,H1,I1,r,z,q⟩=>⟨by rw [<- r.length]; exact z,?_⟩)
 have hf:H1 s1.heap.objs.size=none:=I1.bE.fresh (Nat.le_refl _)
 refine ⟨.ref s1.heap.objs.size,upd H1 s1.heap.objs.size (.tup xs),I1.laid (t':=s1.toks) (fun b u e=>Heap.get?_push_of_some _ e) (Nat.le_refl _) ?_,rfl,q _ hf⟩
 exact ⟨z,us,r,⟨_,Heap.get?_push_size _ rfl,rfl,_,rfl⟩⟩
theorem IB (h:PA X es t):PE X (.List es pos) (Ox t):=by
 intro pins s σ H Q I hq
 refine wpAny_List_spliced (dh (h pos pins s σ H _ I hq) fun us s1 ⟨xs,H1,I1,r,z,q⟩=>⟨by rw [<- r.length]; exact z,?_⟩)
 have hf:H1 s1.heap.objs.size=none:=I1.bE.fresh (Nat.le_refl _)
 refine ⟨.ref s1.heap.objs.size,upd H1 s1.heap.objs.size (.lst xs),I1.laid (t':=s1.toks) (fun b u e=>Heap.get?_push_of_some _ e) (Nat.le_refl _) ?_,rfl,q _ hf⟩
 exact ⟨z,us,0,r,Heap.get?_push_size _ rfl⟩
end
abbrev Sp:=List V->Hp->VK->XK->Prop
abbrev Bl:=List Env->Hp->Shared->XK->Value->Shared->Prop
structure zY (P:Program) (w:World) (K:PySem.W.Frag) (mg:Str->Option Value) (base:Heap) (A:Around) (outer:List Env) (s:Shared) (H:Hp):Prop where
 frames:A.frames=some outer
 mod:Mod K mg base
 bs:∀ b o,base.get? b=some o->s.heap.get? b=some o /\ H b=none
 we:base.objs.size<=s.heap.objs.size
 gW:s.heap.FunFrames base outer
 wg:∀ b∈mi outer,H b=none
 bE:ka P w H s.heap
 bare:AllBare s.gens
def CE (outer:List Env) (P:Program) (w:World) (H:Hp) (s:Shared) (Q:VK) (u:Value) (s':Shared):Prop:=
 ∃ v H',s'.os=s.os /\ AllBare s'.gens /\ Un (mi outer) [] H H' s.heap s'.heap /\ ka P w H' s'.heap /\ RelV v u /\ Q v H'
def CR (CX:Bl) (outer:List Env) (P:Program) (w:World) (H:Hp) (s:Shared) (Q:VK) (E:XK) (r:Result) (s':Shared):Prop:=
 match r with
 | .ok (.ret u)=>CE outer P w H s Q u s'
 | .ok _=>False
 | .error e=>CX outer H s E e s'
structure nI (P:Program) (w:World) (K:PySem.W.Frag) (mg:Str->Option Value) (base:Heap) (CX:Bl) (k:Nat) (f:Addr) (fd:FuncData) (ps:List Str) (sp:Sp):Prop where
 len:∀ vs H Q E,sp vs H Q E->vs.length=ps.length
 run:∀ (A:Around) (outer:List Env) (s:Shared) (H:Hp) (args:Args) (us:List Value) (vs:List V) (Q:VK) (E:XK),dq k A->zY P w K mg base A outer s H->BindsTo s fd args (ps.zip us)->bf vs us->sp vs H Q E->
  codeAny (model P w) A (.call (.ref f) args) (CR CX outer P w H s Q E) s
section
variable {X:Cx} {pins:List (Addr×Obj)} {σ:St} {H:Hp} {s s':Shared}
theorem Inv.LI (I:Inv X pins σ H s):zY X.prog X.w X.K X.mg X.base X.A X.stack s H:=
 ⟨I.ok.frames,I.ok.mod,I.bs,Nat.le_trans I.ok.we I.sz,I.stack,I.nQ,I.bE,I.bare⟩
theorem Inv.after {Q:VK} {u:Value} (I:Inv X pins σ H s) (h:CE X.stack X.prog X.w H s Q u s'):EP X pins σ Q u s':=by
 obtain ⟨v,H',os,bare,un,bE,r,q⟩:=h
 obtain ⟨hh,g,d,t,Oy⟩:=s'
 obtain rfl:Oy=s.os:=os
 exact ⟨v,H',I.call (h':=hh) (g':=g) (d':=d) (t':=t) (ch:=[]) un bE bare (fun b z=>absurd z (by simp)),r,q⟩
end
def lA (sp:Sp) (Hh:List V) (E:XK) (t:TA):TE:=fun σ H Q=>t σ H fun vs H1=>sp (vs ++ Hh) H1 Q E
def Binds (K:PySem.W.Frag) (fd:FuncData) (ps:List Str) (ds:List Value):Prop:=
 ∀ (s:Shared) (us:List Value),K.In s.heap->(us ++ ds).length=ps.length->BindsTo s fd ⟨us,[]⟩ (ps.zip (us ++ ds))
theorem Binds.all {K:PySem.W.Frag} {fd:FuncData} {ps:List Str} (h:∀ us:List Value,us.length=ps.length->bindArgs fd ⟨us,[]⟩=pure (ps.zip us)):Binds K fd ps []:=fun s us _ hl=>by
 rw [List.append_nil] at hl ⊢
 exact .of_eq (h us hl)
def ku (CX:Bl) (X:Cx) (E:XK):Prop:=∀ (pins:List (Addr×Obj)) (σ:St) (H:Hp) (s:Shared) (e:Value) (s':Shared),Inv X pins σ H s->CX X.stack H s E e s'->X.xe e s'
section
variable {X:Cx} {CX:Bl} {k:Nat} {f C:Addr} {fd:FuncData} {ps:List Str} {sp:Sp} {Hh:List V} {ds:List Value} {E:XK} {x m:Str} {p pos apos:Pos} {e o:Expr} {es:List Expr} {ta:TE} {t:TA}
theorem IC {pins:List (Addr×Obj)} {σ:St} {H:Hp} {s:Shared} {Q:VK} {us:List Value} {vs:List V} (F:nI X.prog X.w X.K X.mg X.base CX k f fd ps sp) (hr:dq k X.A) (hb:Binds X.K fd ps ds) (hd:bf Hh ds) (hx:ku CX X E)
  (I:Inv X pins σ H s) (r:bf vs us) (h:sp (vs ++ Hh) H Q E):wpAny (model X.prog X.w) X.A (call (.ref f) us) (EP X pins σ Q) X.xe s:=by
 have r2:bf (vs ++ Hh) (us ++ ds):=r.append hd
 have hl:(us ++ ds).length=ps.length:=by rw [<- r2.length]; exact F.len _ _ _ _ h
 refine wpAny_call (codeAny_mono (F.run X.A X.stack s H ⟨us,[]⟩ (us ++ ds) (vs ++ Hh) Q E hr I.LI (hb s us I.v5 hl) r2 h) fun r s' hq=>?_)
 cases r with
 | error e=>exact hx pins σ H s e s' I hq
 | ok fl=>
   cases fl with
   | ret u=>exact I.after hq
   | next=>exact False.elim hq
   | brk=>exact False.elim hq
   | cont=>exact False.elim hq
theorem rO (F:nI X.prog X.w X.K X.mg X.base CX k f fd ps sp) (hr:dq k X.A) (hg:Gl X x) (hm:X.mg x=some (.ref f)) (hk:PySem.W.keepIn X.K (.ref f)=true) (hb:Binds X.K fd ps ds) (hd:bf Hh ds) (hx:ku CX X E)
  (ha:PA X (e :: es) t) (oC:(x == ("__debug__":Str))=false:=by decide) (he:starEach (e :: es) X.env=(false,eval e X.env) :: starEach es X.env:=by rfl) (js:(backTo pos (starEach es X.env)).any (·.1)=false:=by rfl):
  PE X (.Call (.Name x p) (e :: es) [] pos) (lA sp Hh E t):=by
 intro pins s σ H Q I h
 refine wpAny_Call_Name_kw (ly I hg hm ?_ oC)
 refine PySem.W.callWith_K (h₀:=X.base) I.ok.mod.Lj hk (dh (ha pos pins s σ H _ I h) fun us s1 ⟨vs,H1,I1,r,q⟩=>⟨I1.v5,?_⟩) he js
 exact IC F hr hb hd hx I1 r q
end
section
variable {X:Cx} {CX:Bl} {k:Nat} {f C:Addr} {fd:FuncData} {ps ks:List Str} {sp:Sp} {E:XK} {x m:Str} {p pos apos VR:Pos} {e o:Expr} {es:List Expr} {ID:List Keyword} {te ta:TE} {t tk:TA} {nm:Option Str}
variable {g:List Value->List Value->List Value} {gV:List V->List V->List V}
end
structure aD (N P:List Str) (sc:Scope):Prop where
 kind:sc.kind=.function
 co:sc.isCoroutine=false
 gen:sc.isGenerator=false
 nd:N.Nodup
 pre:N.take P.length=P
 par:∀ x∈P,sc.names.lookup x=some .local \/ sc.names.lookup x=some .cell
 IE:∀ y∈sc.names,y.2≠.free
theorem qN {kindOf:Str->Option NameKind} {x:Str}:∀ {binds:List (Str×Value)} {m:Str->Option Value},(∀ v,(x,v)∉binds)->bindL kindOf binds m x=m x
 | [],_,_=>rfl
 | (n,v) :: r,m,h=>by
   unfold bindL
   rw [qN fun w hw=>h w (List.mem_cons_of_mem _ hw)]
   split
   ·have:x≠n:=by rintro rfl; exact h v List.mem_cons_self
    simp [this]
   ·rfl
theorem qO {kindOf:Str->Option NameKind} {x:Str}:∀ {binds:List (Str×Value)} {m:Str->Option Value},(∀ v,(x,v)∉binds)->bindC kindOf binds m x=m x
 | [],_,_=>rfl
 | (n,v) :: r,m,h=>by
   unfold bindC
   rw [qO fun w hw=>h w (List.mem_cons_of_mem _ hw)]
   split
   ·rfl
   ·have:x≠n:=by rintro rfl; exact h v List.mem_cons_self
    simp [this]
theorem qP {kindOf:Str->Option NameKind} {x:Str} {v:Value}:∀ {P:List Str} {vs:List Value} {i:Nat} {m:Str->Option Value},P.Nodup->P[i]?=some x->vs[i]?=some v->kindOf x=some .local->
  bindL kindOf (P.zip vs) m x=some v
 | [],_,_,_,_,h,_,_=>by simp at h
 | _ :: _,[],_,_,_,_,h,_=>by simp at h
 | p :: P,w :: vs,0,m,nd,h1,h2,hk=>by
   simp at h1 h2; subst h1; subst h2
   show bindL kindOf ((p,w) :: P.zip vs) m p=_
   unfold bindL
   rw [qN fun v hv=>(List.nodup_cons.mp nd).1 (List.of_mem_zip hv).1,if_pos hk]
   simp
 | p :: P,w :: vs,i + 1,m,nd,h1,h2,hk=>by
   show bindL kindOf ((p,w) :: P.zip vs) m x=_
   unfold bindL
   exact qP (i:=i) (List.nodup_cons.mp nd).2 (by simpa using h1) (by simpa using h2) hk
theorem qQ {kindOf:Str->Option NameKind} {x:Str} {v:Value}:∀ {P:List Str} {vs:List Value} {i:Nat} {m:Str->Option Value},P.Nodup->P[i]?=some x->vs[i]?=some v->kindOf x≠some .local->
  bindC kindOf (P.zip vs) m x=some v
 | [],_,_,_,_,h,_,_=>by simp at h
 | _ :: _,[],_,_,_,_,h,_=>by simp at h
 | p :: P,w :: vs,0,m,nd,h1,h2,hk=>by
   simp at h1 h2; subst h1; subst h2
   show bindC kindOf ((p,w) :: P.zip vs) m p=_
   unfold bindC
   rw [qO fun v hv=>(List.nodup_cons.mp nd).1 (List.of_mem_zip hv).1,if_neg hk]
   simp
 | p :: P,w :: vs,i + 1,m,nd,h1,h2,hk=>by
   show bindC kindOf ((p,w) :: P.zip vs) m x=_
   unfold bindC
   exact qQ (i:=i) (List.nodup_cons.mp nd).2 (by simpa using h1) (by simpa using h2) hk
def start (N:List Str) (vs:List V):St:=vs.map some ++ List.replicate (N.length - vs.length) none
def fZ (CX:Bl) (P:Program) (w:World) (K:PySem.W.Frag) (mg:Str->Option Value) (base:Heap) (N:List Str) (qual:Str) (scope:Scope) (f:Addr) (cd:Value) (A:Around) (outer:List Env) (s:Shared) (H:Hp) (E:XK):Cx where
 prog:=P
 w:=w
 K:=K
 mg:=mg
 base:=base
 A:=A.deeper (envOfC qual scope s.heap.objs.size f cd)
 N:=N
 eJ:=s
 Bu:=H
 env:=envOfC qual scope s.heap.objs.size f cd
 outer:=outer
 stack:=envOfC qual scope s.heap.objs.size f cd :: outer
 ex:=[]
 calm:=true
 fn:=fun _=>true
 pn:=[]
 xe:=fun e s'=>wpAny (model P w) (A.deeper (envOfC qual scope s.heap.objs.size f cd)) (leaving (envOfC qual scope s.heap.objs.size f cd) e) (fun _ LJ=>CX outer H s E e LJ) (fun e' LJ=>CX outer H s E e' LJ) s'
theorem ue {sc:Scope} {n:Nat} {x:Str} (h:sc.names.lookup x=some .cell):∃ c,(cellsFrom n sc.names []).lookup x=some c:=by
 have q:=PySem.W.cellsFrom_some sc.names n [] (.inl h)
 exact Option.isSome_iff_exists.mp q
theorem qR {CX:Bl} {P:Program} {w:World} {K:PySem.W.Frag} {mg:Str->Option Value} {base:Heap} {N ps:List Str} {qual:Str} {scope:Scope} {f:Addr} {cd:Value} {A:Around} {outer:List Env} {s s1:Shared} {H:Hp} {E:XK} {us:List Value} {vs:List V}
  (S:aD N ps scope) (hd:A.handled=none) (e0:zY P w K mg base A outer s H) (hl:vs.length=ps.length) (r:bf vs us)
  (x:InCallC s s.heap.objs.size (bindL (envOfC qual scope s.heap.objs.size f cd).kindOf (ps.zip us) fun _=>none) (cellsFrom (s.heap.objs.size + 1) scope.names []) (bindC (envOfC qual scope s.heap.objs.size f cd).kindOf (ps.zip us) fun _=>none) s1):
  Inv (fZ CX P w K mg base N qual scope f cd A outer s H E) [] (start N vs) H s1:=by
 have js:ps.length<=N.length:=by have:=congrArg List.length S.pre; rw [List.length_take] at this; omega
 obtain ⟨h1,tk,rfl,hk⟩:=x.done
 have LK:∀ b:Addr,b∉(fZ CX P w K mg base N qual scope f cd A outer s H E).ex:=fun b z=>absurd (show b∈([]:List Addr) from z) (by simp)
 refine ⟨⟨e0.mod,S.kind,rfl,rfl,Nat.le_refl _,fun y z c h1 h2=>?_,fun y hy=>?_,fun y c _ h=>?_,fun _=>hd,Around.frames_deeper e0.frames,.inr ⟨rfl,rfl⟩,fun b z=>absurd z (LK b),e0.bs,e0.we,fun b _ _=>LK b,fun b z=>absurd z (LK b),e0.gW,e0.wg⟩,
  rfl,e0.bare,Un.kept hk,⟨_,x.toInCall.ns,fun i y v h1 h2 h3=>?_⟩,fun y c h=>⟨_,x.cell y c h⟩,e0.bE.fresh (Nat.le_refl _),fun y c h=>?_,fun p hp=>absurd (show p∈([]:List (Addr×Obj)) from hp) (by simp),e0.bE.kept hk,?_⟩
 ·exact name_of_addr x.apart (PySem.mem_of_lookup h1) (PySem.mem_of_lookup h2)
 ·have hy:scope.names.lookup y=some .cell \/ scope.names.lookup y=some .free:=hy
  rcases hy with hy | hy
  ·exact ue hy
  ·exact absurd rfl (S.IE _ (PySem.mem_of_lookup hy))
 ·exact Nat.le_of_lt (x.above y c (PySem.mem_of_lookup h))
 ·have hi:i < vs.length:=by
   unfold start at h2
   by_cases hi:i < vs.length
   ·exact hi
   ·rw [List.getElem?_append_right (by simpa using hi)] at h2
    rw [List.getElem?_replicate] at h2
    split at h2 <;> cases h2
  have ha:vs[i]?=some v:=by
   unfold start at h2
   rw [List.getElem?_append_left (by simpa using hi),List.getElem?_map] at h2
   cases e:vs[i]? with
   | none=>rw [e] at h2; cases h2
   | some a=>rw [e] at h2; cases h2; rfl
  obtain ⟨u,hu,rv⟩:=r.get ha
  have hp:ps[i]?=some y:=by
   rw [<- S.pre,List.getElem?_take_of_lt (by omega)]; exact h1
  have UC:ps.Nodup:=by rw [<- S.pre]; exact S.nd.sublist (List.take_sublist _ _)
  refine ⟨u,rv,?_⟩
  rcases S.par y (List.mem_of_getElem? hp) with k | k
  ·exact .inl ⟨k,qP UC hp hu k⟩
  ·obtain ⟨c,e⟩:=ue (n:=s.heap.objs.size + 1) k
   refine .inr ⟨.inl k,c,e,?_⟩
   have q:=x.cell y c e
   rw [qQ UC hp hu (by show scope.names.lookup y≠_; rw [k]; decide)] at q
   exact q
 ·exact e0.bE.fresh (Nat.le_of_lt (x.above y c (PySem.mem_of_lookup h)))
 ·unfold start
  show _=N.length
  rw [List.length_append,List.length_map,List.length_replicate]
  omega
theorem Hi {CX:Bl} {P:Program} {w:World} {K:PySem.W.Frag} {mg:Str->Option Value} {base:Heap} {k:Nat} {f:Addr} {name qual:Str} {params:Arguments} {body:List Stmt} {scope:Scope} {dV kV doc pm bR ct oc:Value} {an od:Option Addr}
  {wB:Array (Option Value)} {N ps:List Str} {sp:Sp} (lk:K.lookup f=some ⟨oc,od,.func (PySem.W.fnOf name qual params body scope dV kV doc pm an bR ct),wB⟩) (qh:PySem.W.codeIn K bR qual=true) (S:aD N ps scope)
  (len:∀ vs H Q E,sp vs H Q E->vs.length=ps.length)
  (lB:∀ (A:Around) (outer:List Env) (s:Shared) (H:Hp) (vs:List V) (Q:VK) (E:XK),dq k (A.deeper (envOfC qual scope s.heap.objs.size f bR))->sp vs H Q E->
   ∃ t,ji (fZ CX P w K mg base N qual scope f bR A outer s H E) body t /\ t { nx:=fun _ H'=>Q .gU H',rt:=Q } (start N vs) H):
  nI P w K mg base CX (k + 1) f (PySem.W.fnOf name qual params body scope dV kV doc pm an bR ct) ps sp:=by
 refine ⟨len,fun A outer s H args us vs Q E hr e0 hb r BL=>?_⟩
 have hl:=len _ _ _ _ BL
 have KX:K.In s.heap:=e0.mod.Lj.keeps fun b o e=>(e0.bs b o e).1
 have lim:s.heap.NoLimit:=e0.mod.nolimit.keeps fun b o e=>(e0.bs b o e).1
 have BM:∀ y∈ps.zip us,scope.names.lookup y.1=some .local \/ (scope.names.lookup y.1=some .cell /\ ((cellsFrom (s.heap.objs.size + 1) scope.names []).lookup y.1).isSome=true):=fun ⟨n,v⟩ hy=>by
  rcases S.par n (List.of_mem_zip hy).1 with q | q
  ·exact .inl q
  ·exact .inr ⟨q,PySem.W.cellsFrom_some _ _ _ (.inl q)⟩
 refine codeAny_call_function hr.depth (KX _ _ lk) rfl S.co S.gen rfl (PySem.W.codeRec_of KX qh) (hb _ _ _ _ ?_)
 refine wpAny_newFunctionEnv_cells S.kind BM fun env he s1 x=>?_
 subst he
 refine ⟨lim.keeps x.toInCall.keep,codeAny_func ?_⟩
 obtain ⟨t,ht,hq⟩:=lB A outer s H vs Q E (hr.deeper _) BL
 have I:Inv (fZ CX P w K mg base N qual scope f bR A outer s H E) [] (start N vs) H s1:=qR S hr.hd e0 hl r x
 refine wpAny_mono (ht [] s1 (start N vs) H _ I hq) (fun fl s' hs=>?_) fun e s' hs=>hs
 have fin:∀ {bM:St} {H':Hp} {v:V} {u:Value},Inv (fZ CX P w K mg base N qual scope f bR A outer s H E) [] bM H' s'->RelV v u->Q v H'->CE outer P w H s Q u s':=
  fun {bM H' v u} J rv q=>⟨v,H',J.os,J.bare,J.base,J.bE,rv,q⟩
 cases fl with
 | ret u=>
   obtain ⟨v,bM,H',J,rv,q⟩:=hs
   exact fin J rv q
 | next=>
   obtain ⟨bM,H',J,q⟩:=hs
   exact fin (v:=V.gU) (u:=Value.none) J rfl q
 | brk=>
   obtain ⟨_,_,_,q⟩:=hs
   exact False.elim q
 | cont=>
   obtain ⟨_,_,_,q⟩:=hs
   exact False.elim q
section
variable {X:Cx} {x:Str} {p pos:Pos} {e:Expr} {es:List Expr} {t:TA} {id T:String} {r:List V->Hp->VK->Prop}
def NF (r:List V->Hp->VK->Prop) (t:TA):TE:=fun σ H Q=>t σ H fun vs H1=>r vs H1 Q
theorem oD (hc:dU X (.builtin id) r) (hg:Gl X x) (hm:X.mg x=none) (hv:bootBuiltins x=some (.builtin id)) (ha:PA X (e :: es) t) (hn:x≠"__name__":=by decide) (oC:(x == ("__debug__":Str))=false:=by decide)
  (he:starEach (e :: es) X.env=(false,eval e X.env) :: starEach es X.env:=by rfl) (js:(backTo pos (starEach es X.env)).any (·.1)=false:=by rfl):PE X (.Call (.Name x p) (e :: es) [] pos) (NF r t):=by
 intro pins s σ H Q I h
 refine wpAny_Call_Name_kw (ic I hg hm hv ?_ hn oC)
 exact PyProof.Rows.callWith_builtin1 (dh (ha pos pins s σ H _ I h) fun us s1 ⟨vs,H1,I1,r1,q1⟩=>hc pins s1 σ H1 vs us Q I1 r1 q1) he js
theorem my (hc:dU X (.type T) r) (hg:Gl X x) (hm:X.mg x=none) (hv:bootBuiltins x=some (.type T)) (ha:PA X (e :: es) t) (hn:x≠"__name__":=by decide) (oC:(x == ("__debug__":Str))=false:=by decide)
  (he:starEach (e :: es) X.env=(false,eval e X.env) :: starEach es X.env:=by rfl) (js:(backTo pos (starEach es X.env)).any (·.1)=false:=by rfl):PE X (.Call (.Name x p) (e :: es) [] pos) (NF r t):=by
 intro pins s σ H Q I h
 refine wpAny_Call_Name_kw (ic I hg hm hv ?_ hn oC)
 exact PyProof.Rows.callWith_type1 (dh (ha pos pins s σ H _ I h) fun us s1 ⟨vs,H1,I1,r1,q1⟩=>hc pins s1 σ H1 vs us Q I1 r1 q1) he js
end
end L2
namespace HT
open PySem PyProof.Rows
section
open PySem.SeqAt
open PySem.AutoSeq1 (wpAny_loadPart')
open PySem.MeetsSeq PySem.MeetsSeq2 PySem.MeetsSeq3
end
section
variable {prog:Program} {w:World} {A:Around} {E:Value->Shared->Prop} {s:Shared}
theorem E3 {t b:Addr} {vs ws:List Value} {Q:Value->Shared->Prop} (ht:IsTup s.heap t vs.toArray) (hb:IsTup s.heap b ws.toArray) (hv:vs≠[])
  (h1:ws=[]->Q (.ref t) s) (h2:ws≠[]->Q (.ref s.heap.objs.size) { s with heap:=s.heap.push { cls:=.type "tuple",data:=.seq (vs ++ ws).toArray } })
  (hsz:vs.length + ws.length<=sizeLine):wpAny (model prog w) A (binaryOp .Add (.ref t) (.ref b)) Q E s:=by
 obtain ⟨⟨cls,dd,data,sl⟩,ho,hc,n,hd⟩:=id ht
 obtain ⟨⟨VS,UD,data2,E4⟩,iw,hc2,n2,hd2⟩:=id hb
 simp only at hc hd hc2 hd2
 subst hc hd hc2 hd2
 have e:vs.toArray ++ ws.toArray=(vs ++ ws).toArray:=by simp
 by_cases hw:ws=[]
 ·exact concat_meets ⟨_,ho,rfl⟩ ⟨_,iw,rfl⟩ noFill_tuple_add seq_tuple_add PySem.F.slot_tuple_add PySem.F.entry_tuple_add (PySem.F.args_tuple_add_2 _ _)
   (tuple_addW1 t b vs.toArray ws.toArray n n2 dd UD sl E4 (by simpa using hv) (by simp [hw])) ⟨ho,iw,h1 hw⟩
 ·refine concat_meets ⟨_,ho,rfl⟩ ⟨_,iw,rfl⟩ noFill_tuple_add seq_tuple_add PySem.F.slot_tuple_add PySem.F.entry_tuple_add (PySem.F.args_tuple_add_2 _ _)
   (tuple_addW2 t b vs.toArray ws.toArray n n2 dd UD sl E4 (by simpa using hv) (by simpa using hw) (by rw [List.size_toArray,List.size_toArray]; exact hsz)) ⟨ho,iw,?_⟩
  rw [e]
  exact h2 hw
def qb (n d:Nat):Option Int->Nat
 | none=>d
 | some v=>if v < 0 then (v + (n:Int)).toNat else min v.toNat n
theorem yF (n d k:Nat):qb n d (some (k:Int))=min k n:=by
 show (if (k:Int) < 0 then ((k:Int) + (n:Int)).toNat else min (k:Int).toNat n)=min k n
 rw [if_neg (by omega),Int.toNat_natCast]
end
end HT
namespace L2
open PySem PySem.Spec PyProof.Rows
abbrev TO:=St->Hp->(Option Int->Hp->Prop)->Prop
def PO (X:Cx) (e:Option Expr) (t:TO):Prop:=
 ∀ (pins:List (Addr×Obj)) (s:Shared) (σ:St) (H:Hp) (Q:Option Int->Hp->Prop),Inv X pins σ H s->t σ H Q->
   wpAny (model X.prog X.w) X.A (evalPart e X.env) (fun u s'=>∃ o H',Inv X pins σ H' s' /\ IsPart u o /\ Q o H') X.xe s
def LL (t:TE):TO:=fun σ H Q=>t σ H fun x H1=>∃ i,x=.int i /\ Q (some i) H1
theorem intsAre_of {ns:List Int}:∀ {us:List Value},bf (ns.map V.int) us->IntsAre us ns:=by
 induction ns with
 | nil=>intro us r; rw [List.map_nil] at r; cases r; exact .nil
 | cons n ns ih=>
   intro us r
   rw [List.map_cons] at r
   cases r with
   | cons r1 r2=>
     obtain ⟨t,e⟩:=r1
     subst e
     exact .cons n t (ih r2)
section
variable {X:Cx} {e:Expr} {te:TE} {lo hi:Option Expr} {tl th:TO} {pos p2:Pos}
theorem E5 (h:PE X e te):PO X (some e) (LL te):=by
 intro pins s σ H Q I hw
 rw [evalPart_some]
 refine dh (h pins s σ H _ I hw) fun u s1 ⟨x,H1,I1,r1,q1⟩=>?_
 obtain ⟨i,rfl,q⟩:=q1
 obtain ⟨t,rfl⟩:=r1
 exact ⟨some i,H1,I1,.int i t,q⟩
def UE (X:Cx) (r:V->Option Int->Option Int->Hp->VK->Prop):Prop:=
 ∀ (pins:List (Addr×Obj)) (s:Shared) (σ:St) (H:Hp) (x:V) (v vl vu:Value) (lo hi:Option Int) (sl:Addr) (Q:VK),Inv X pins σ H s->RelV x v->s.heap.IsSliceOf sl vl vu .none->IsPart vl lo->IsPart vu hi->r x lo hi H Q->
   ∃ T id,typeLookup (.type T) "__getitem__"=pure (some (.builtin id)) /\ s.TypeIs v T /\ wpAny (model X.prog X.w) X.A (getItem v (.ref sl)) (EP X pins σ Q) X.xe s
def VT (r:V->Option Int->Option Int->Hp->VK->Prop) (te:TE) (tl th:TO):TE:=fun σ H Q=>te σ H fun x H1=>tl σ H1 fun l H2=>th σ H2 fun u H3=>r x l u H3 Q
theorem BN {r:V->Option Int->Option Int->Hp->VK->Prop} (hr:UE X r) (he:PE X e te) (hl:PO X lo tl) (hu:PO X hi th):PE X (.Subscript e (.Slice lo hi none p2) pos) (VT r te tl th):=by
 intro pins s σ H Q I h
 refine Subscript_ (dh (he pins s σ H _ I h) fun v s1 ⟨x,H1,I1,r1,q1⟩=>?_)
 refine wpAny_Slice (dh (hl pins s1 σ H1 _ I1 q1) fun vl s2 ⟨l,H2,I2,pl,q2⟩=>dh (hu pins s2 σ H2 _ I2 q2) fun vu s3 ⟨u,H3,I3,pu,q3⟩=>?_)
 rw [evalPart_none]
 refine wpAny_pure ?_
 have I4:Inv X pins σ H3 { s3 with heap:=s3.heap.push { cls:=.type "slice",data:=.fields #[vl,vu,.none] } }:=I3.kept (t':=s3.toks) fun b ob q=>Heap.get?_push_of_some _ q
 obtain ⟨T,id,hT,ht,hg⟩:=hr pins { s3 with heap:=s3.heap.push { cls:=.type "slice",data:=.fields #[vl,vu,.none] } } σ H3 x v vl vu l u s3.heap.objs.size Q I4 r1 (Heap.IsSliceOf.new ..) pl pu q3
 show wpAny (model X.prog X.w) X.A (subscriptTail e (.Slice lo hi none p2) v (.ref s3.heap.objs.size)) (EP X pins σ Q) X.xe { s3 with heap:=s3.heap.push { cls:=.type "slice",data:=.fields #[vl,vu,.none] } }
 exact tail_any (ops:=[.ref s3.heap.objs.size,v]) ht hT hg (by with_unfolding_all rfl)
def BO (xs:List V) (lo hi:Option Int):List V:=(xs.drop (HT.qb xs.length 0 lo)).take (HT.qb xs.length xs.length hi - HT.qb xs.length 0 lo)
theorem uf (xs:List V) (lo hi:Option Int):(BO xs lo hi).length<=xs.length:=by
 unfold BO
 rw [List.length_take,List.length_drop]
 omega
def Hj (K:PySem.W.Frag):R2:=fun x y H Q=>∃ a b xs ys,x=.ref a /\ y=.ref b /\ jk K H a xs /\ jk K H b ys /\ xs≠[] /\ xs.length + ys.length<=sizeLine /\
 (ys=[]->Q (.ref a) H) /\ (ys≠[]->∀ p,H p=none->Q (.ref p) (upd H p (.tup (xs ++ ys))))
theorem bf.nR {xs:List V} {us:List Value} (r:bf xs us):us=[]↔xs=[]:=by
 cases r with
 | nil=>simp
 | cons _ _=>simp
theorem E6:gH X (binaryOp .Add) (Hj X.K):=by
 intro pins s σ H x y v u Q I rx ry h
 obtain ⟨a,b,xs,ys,rfl,rfl,ha,hb,hx,hz,q1,q2⟩:=h
 cases rx
 cases ry
 obtain ⟨its,r1,p1,_⟩:=I.tuple ha
 obtain ⟨qk,r2,p2,_⟩:=I.tuple hb
 refine HT.E3 p1 p2 (fun z=>hx (r1.nR.mp z)) (fun z=>⟨.ref a,H,I,rfl,q1 (r2.nR.mp z)⟩) (fun z=>?_) (by rw [<- r1.length,<- r2.length]; exact hz)
 refine ⟨.ref s.heap.objs.size,_,I.laid (t':=s.toks) (o:=.tup (xs ++ ys)) (fun b ob q=>Heap.get?_push_of_some _ q) (Nat.le_refl _) ?_,rfl,q2 (fun w=>z (r2.nR.mpr w)) _ (I.bE.fresh (Nat.le_refl _))⟩
 exact ⟨by rw [List.length_append]; exact hz,_,r1.append r2,IsTup.new _ _⟩
end
def KN (n:Nat) (i:Int):Option Nat:=if 0<=i then (if i < n then some i.toNat else none) else if -(n:Int)<=i then some (i + n).toNat else none
def rP {α:Type} (xs:List α) (i:Int):Option α:=(KN xs.length i).bind fun j=>xs[j]?
theorem E7 {n:Nat} {i:Int} {j:Nat} (h:KN n i=some j):seqIndex? i n=some j /\ j < n /\ -(n:Int)<=i /\ i < n:=by
 unfold KN at h
 by_cases h0:0<=i
 ·rw [if_pos h0] at h
  by_cases h1:i < n
  ·rw [if_pos h1] at h
   have e:i.toNat=j:=Option.some.inj h
   exact ⟨by rw [seqIndex_of h0 h1,e],by omega,by omega,h1⟩
  ·rw [if_neg h1] at h; cases h
 ·rw [if_neg h0] at h
  by_cases h1: -(n:Int)<=i
  ·rw [if_pos h1] at h
   have e:(i + n).toNat=j:=Option.some.inj h
   exact ⟨by rw [seqIndex_neg (by omega) h1,e],by omega,h1,by omega⟩
  ·rw [if_neg h1] at h; cases h
theorem rQ {α:Type} {xs:List α} {i:Int} {v:α} (h:rP xs i=some v):∃ j,seqIndex? i xs.length=some j /\ xs[j]?=some v /\ j < xs.length /\ -(xs.length:Int)<=i /\ i < xs.length:=by
 unfold rP at h
 cases e:KN xs.length i with
 | none=>rw [e] at h; cases h
 | some j=>
   rw [e] at h
   obtain ⟨h1,h2,h3,h4⟩:=E7 e
   exact ⟨j,h1,h,h2,h3,h4⟩
theorem nS {α:Type} {xs:List α} {j:Nat} {v:α} (h:xs[j]?=some v):rP xs (j:Int)=some v:=by
 have hj:j < xs.length:=(List.getElem?_eq_some_iff.mp h).1
 have e:KN xs.length (j:Int)=some j:=by
  unfold KN
  rw [if_pos (by omega),if_pos (by omega)]; simp
 unfold rP; rw [e]; exact h
def yG (b:Expr):Prop:=∀ o i,subscripted b false o i=operate [o,i] (getItem o i)
def E8 (X:Cx) (r:R2):Prop:=
 ∀ (value slice:Expr) (pins:List (Addr×Obj)) (s:Shared) (σ:St) (H:Hp) (x y:V) (v u:Value) (Q:VK),Inv X pins σ H s->RelV x v->RelV y u->r x y H Q->
   subscripted slice false v u=operate [v,u] (getItem v u)->wpAny (model X.prog X.w) X.A (subscriptTail value slice v u) (EP X pins σ Q) X.xe s
def NG (X:Cx) (id:String) (r:V->List V->Hp->VK->Prop):Prop:=
 ∀ (pins:List (Addr×Obj)) (s:Shared) (σ:St) (H:Hp) (x:V) (xs:List V) (v:Value) (us:List Value) (Q:VK),Inv X pins σ H s->RelV x v->bf xs us->r x xs H Q->
   wpAny (model X.prog X.w) X.A (call (.builtin id) (v :: us)) (EP X pins σ Q) X.xe s
section
variable {X:Cx} {a b:Expr} {ta tb:TE} {pos:Pos}
theorem E8.or {r r':R2} (h:E8 X r) (h':E8 X r'):E8 X (fun x y H Q=>r x y H Q \/ r' x y H Q):=by
 intro value slice pins s σ H x y v u Q I rx ry q hs
 rcases q with q | q
 ·exact h value slice pins s σ H x y v u Q I rx ry q hs
 ·exact h' value slice pins s σ H x y v u Q I rx ry q hs
theorem LM {r:R2} (hr:E8 X r) (ha:PE X a ta) (hb:PE X b tb) (hs:yG b):PE X (.Subscript a b pos) (KL r ta tb):=by
 intro pins s σ H Q I h
 exact Subscript_ (Ir ha hb I h fun v u s2 x y H2 I2 rx ry q=>hr a b pins s2 σ H2 x y v u Q I2 rx ry q (hs _ _))
def LN (K:PySem.W.Frag):R2:=fun x y H Q=>∃ p xs i v,x=.ref p /\ y=.int i /\ fY K H p xs /\ rP xs i=some v /\ Q v H
def LO (K:PySem.W.Frag):R2:=fun x y H Q=>∃ p xs i v,x=.ref p /\ y=.int i /\ jk K H p xs /\ rP xs i=some v /\ Q v H
def LP:R2:=fun x y H Q=>∃ z i c,x=.str z /\ y=.int i /\ z.length<=sizeLine /\ rP z.cps.toList i=some c /\ Q (.str ⟨#[c]⟩) H
theorem E9:E8 X (LN X.K):=by
 intro value slice pins s σ H x y v u Q I rx ry h hs
 obtain ⟨p,xs,i,z,rfl,rfl,hq,he,q⟩:=h
 cases rx
 obtain ⟨t,rfl⟩:=ry
 obtain ⟨its,r,pl,hz⟩:=I.list hq
 obtain ⟨j,h1,h2,h3,h4,h5⟩:=rQ he
 obtain ⟨w,ew,zZ⟩:=r.get h2
 have hl:=r.length
 have hn:=mx
 have fin:EP X pins σ Q w s:=⟨z,H,I,zZ,q⟩
 by_cases h0:0<=i
 ·have hj:i.toNat=j:=by
   rw [seqIndex_of h0 h5] at h1
   exact Option.some.inj h1
  exact item_listR pl.isList h0 (by omega) (by rw [hj]; simpa using ew) fin hs
 ·have hj:(i + (its.toArray.size:Int)).toNat=j:=by
   rw [seqIndex_neg (by omega) h4] at h1
   rw [List.size_toArray,<- hl]
   exact Option.some.inj h1
  exact subscriptTail_builtinR (x:=w) pl.isList.typeIs slot_list_getitem.lookup
   (wpAny_getItem_list_neg (Q:=fun r s'=>r=w /\ EP X pins σ Q r s') pl.isList (by omega) (by rw [List.size_toArray] <;> omega) (by omega) (by rw [hj]; simpa using ew) ⟨rfl,fin⟩) hs
theorem IF:E8 X (LO X.K):=by
 intro value slice pins s σ H x y v u Q I rx ry h hs
 obtain ⟨p,xs,i,z,rfl,rfl,hq,he,q⟩:=h
 cases rx
 obtain ⟨t,rfl⟩:=ry
 obtain ⟨its,r,pl,hz⟩:=I.tuple hq
 obtain ⟨j,h1,h2,h3,h4,h5⟩:=rQ he
 obtain ⟨w,ew,zZ⟩:=r.get h2
 have hl:=r.length
 have hn:=mx
 have fin:EP X pins σ Q w s:=⟨z,H,I,zZ,q⟩
 exact subscriptTail_builtinR (x:=w) pl.typeIs slot_tuple_getitem.lookup
  (getItem_tuple (j:=j) (Q:=fun r s'=>r=w /\ EP X pins σ Q r s') pl (by omega) (by omega) (by rw [List.size_toArray,<- hl]; exact h1) (by simpa using ew) ⟨rfl,fin⟩) hs
theorem IG:E8 X LP:=by
 intro value slice pins s σ H x y v u Q I rx ry h hs
 obtain ⟨z,i,c,rfl,rfl,hz,he,q⟩:=h
 obtain ⟨t,rfl⟩:=rx
 obtain ⟨t',rfl⟩:=ry
 obtain ⟨j,h1,h2,h3,h4,h5⟩:=rQ he
 have hl:z.cps.toList.length=z.length:=by simp [Str.length]
 rw [hl] at h1 h4 h5
 have hn:=mx
 exact tail_any (typeIs_str s z t) slot_str_getitem.lookup (getItem_str (c:=c) (by
  have e1:decide (i < -(2 ^ 63:Int))=false:=decide_eq_false (by omega)
  have e2:decide (i >=2 ^ 63)=false:=decide_eq_false (by omega)
  rw [e1,e2,Bool.or_false]) (by rw [h1]; simpa using h2) ⟨.str ⟨#[c]⟩,H,I.tok _,⟨_,rfl⟩,q⟩) hs
def UG (K:PySem.W.Frag):R2:=fun x y H Q=>LN K x y H Q \/ LO K x y H Q \/ LP x y H Q
theorem IH:E8 X (UG X.K):=E9.or (IF.or IG)
theorem rR (lo hi:Option Int) (n:Nat):(sliceBounds lo hi none n).1=((HT.qb n 0 lo:Nat):Int) /\ (sliceBounds lo hi none n).2.1=((HT.qb n n hi:Nat):Int) /\ (sliceBounds lo hi none n).2.2=1:=by
 refine ⟨?_,?_,rfl⟩
 ·cases lo with
  | none=>simp [sliceBounds,HT.qb]
  | some i=>
    simp only [sliceBounds,HT.qb,Option.getD_none,show (1:Int) > 0 by decide,if_true]
    by_cases h:i < 0
    ·simp only [h,if_true] <;> omega
    ·simp only [h,if_false] <;> omega
 ·cases hi with
  | none=>simp [sliceBounds,HT.qb]
  | some i=>
    simp only [sliceBounds,HT.qb,Option.getD_none,show (1:Int) > 0 by decide,if_true]
    by_cases h:i < 0
    ·simp only [h,if_true] <;> omega
    ·simp only [h,if_false] <;> omega
theorem ql (its:List Value) (lo hi:Option Int):slicePick its.toArray lo hi none=((its.drop (HT.qb its.length 0 lo)).take (HT.qb its.length its.length hi - HT.qb its.length 0 lo)).toArray:=by
 obtain ⟨h1,h2,h3⟩:=rR lo hi its.toArray.size
 unfold slicePick
 rw [h1,h2,h3]
 simp only [sliceRange_one,pick_run,List.size_toArray] <;> rfl
def Oz (K:PySem.W.Frag):V->Option Int->Option Int->Hp->VK->Prop:=fun x lo hi H Q=>∃ a xs,x=.ref a /\ fY K H a xs /\ ∀ p,H p=none->Q (.ref p) (upd H p (.lst (BO xs lo hi)))
theorem Fb:UE X (Oz X.K):=by
 intro pins s σ H x v vl vu lo hi sl Q I rx hs pl pu h
 obtain ⟨a,xs,rfl,hx,q⟩:=h
 cases rx
 obtain ⟨its,r,ht,hz⟩:=I.list hx
 have hlen:=r.length
 refine ⟨"list",_,slot_list_getitem.lookup,ht.isList.typeIs,?_⟩
 refine wpAny_getItem_list_slice ht.isList hs pl pu .none (by simp) ?_ (by rw [List.size_toArray] <;> omega)
 rw [ql,<- hlen]
 refine ⟨.ref s.heap.objs.size,_,I.laid (t':=s.toks) (o:=.lst (BO xs lo hi)) (fun b ob q=>Heap.get?_push_of_some _ q) (Nat.le_refl _) ?_,rfl,q _ (I.bE.fresh (Nat.le_refl _))⟩
 exact ⟨Nat.le_trans (uf xs lo hi) hz,_,0,(r.drop (HT.qb xs.length 0 lo)).take (HT.qb xs.length xs.length hi - HT.qb xs.length 0 lo),Heap.get?_push_size _ rfl⟩
def jl:V->Bool
 | .gU=>true
 | .bl _=>true
 | .int _=>true
 | .str _=>true
 | _=>false
def EF:V->V->Bool
 | .gU,.gU=>true
 | .bl a,.bl b=>a == b
 | .bl a,.int b=>(if a then 1 else 0) == b
 | .int a,.bl b=>a == (if b then 1 else 0)
 | .int a,.int b=>a == b
 | .str a,.str b=>a == b
 | _,_=>false
theorem II {A:Around} {s:Shared} {y x:V} {u v:Value} (ry:RelV y u) (rx:RelV x v) (fy:jl y=true) (fx:jl x=true):SeqAt.EqAt A s u v (EF y x):=by
 cases y with
 | gU=>
   cases ry
   cases x with
   | gU=>cases rx; exact SeqAt.EqAt.same _
   | bl b=>cases rx; exact SeqAt.EqAt.none_bool b
   | int b=>obtain ⟨t,rfl⟩:=rx; exact SeqAt.EqAt.none_int b t
   | str b=>obtain ⟨t,rfl⟩:=rx; exact SeqAt.EqAt.none_str b t
   | _=>exact absurd (show false=true from fx) Bool.false_ne_true
 | bl a=>
   cases ry
   cases x with
   | gU=>cases rx; exact SeqAt.EqAt.bool_none a
   | bl b=>cases rx; exact SeqAt.EqAt.bool_bool a b
   | int b=>obtain ⟨t,rfl⟩:=rx; exact SeqAt.EqAt.bool_int a b t
   | str b=>obtain ⟨t,rfl⟩:=rx; exact SeqAt.EqAt.bool_str a b t
   | _=>exact absurd (show false=true from fx) Bool.false_ne_true
 | int a=>
   obtain ⟨t',rfl⟩:=ry
   cases x with
   | gU=>cases rx; exact SeqAt.EqAt.int_none a t'
   | bl b=>cases rx; exact SeqAt.EqAt.int_bool a t' b
   | int b=>obtain ⟨t,rfl⟩:=rx; exact SeqAt.EqAt.int_int a t' b t
   | str b=>obtain ⟨t,rfl⟩:=rx; exact SeqAt.EqAt.int_str a t' b t
   | _=>exact absurd (show false=true from fx) Bool.false_ne_true
 | str a=>
   obtain ⟨t',rfl⟩:=ry
   cases x with
   | gU=>cases rx; exact SeqAt.EqAt.str_none a t'
   | bl b=>cases rx; exact SeqAt.EqAt.str_bool a t' b
   | int b=>obtain ⟨t,rfl⟩:=rx; exact SeqAt.EqAt.str_int a t' b t
   | str b=>obtain ⟨t,rfl⟩:=rx; exact SeqAt.EqAt.str_str a t' b t
   | _=>exact absurd (show false=true from fx) Bool.false_ne_true
 | _=>exact absurd (show false=true from fy) Bool.false_ne_true
def wC (x:V) (u:Value):Bool:=match u with
 | .none=>EF .gU x
 | .bool b=>EF (.bl b) x
 | .int i _=>EF (.int i) x
 | .str z _=>EF (.str z) x
 | _=>false
theorem BP {x y:V} {u:Value} (r:RelV y u) (f:jl y=true):wC x u=EF y x:=by
 cases y with
 | gU=>cases r; rfl
 | bl b=>cases r; rfl
 | int i=>obtain ⟨t,rfl⟩:=r; rfl
 | str z=>obtain ⟨t,rfl⟩:=r; rfl
 | _=>exact absurd (show false=true from f) Bool.false_ne_true
theorem lC {x:V}:∀ {xs:List V} {us:List Value},bf xs us->xs.all jl=true->us.any (wC x)=xs.any fun y=>EF y x
 | _,_,.nil,_=>rfl
 | y :: xs,u :: us,.cons r t,f=>by
   rw [List.all_cons,Bool.and_eq_true] at f
   rw [List.any_cons,List.any_cons,BP r f.1,lC t f.2]
theorem jt {A:Around} {s:Shared} {x:V} {v:Value} (rx:RelV x v) (fx:jl x=true):∀ {xs:List V} {us:List Value},bf xs us->xs.all jl=true->∀ u∈us,SeqAt.EqAt A s u v (wC x u)
 | _,_,.nil,_=>fun u hu=>by cases hu
 | y :: xs,u :: us,.cons r t,f=>fun u' hu=>by
   rw [List.all_cons,Bool.and_eq_true] at f
   rcases List.mem_cons.mp hu with rfl | hu
   ·rw [BP r f.1]; exact II r rx f.1 fx
   ·exact jt rx fx t f.2 u' hu
def IJ (x:V) (xs:List V):Bool:=xs.any fun y=>EF y x
def KO (K:PySem.W.Frag) (neg:Bool):R2:=fun x y H Q=>∃ p xs,y=.ref p /\ (fY K H p xs \/ jk K H p xs) /\ jl x=true /\ xs.all jl=true /\ Q (.bl (if neg then !IJ x xs else IJ x xs)) H
theorem z0:gH X (compareOp .In) (KO X.K false):=by
 intro pins s σ H x y v u Q I rx ry h
 obtain ⟨p,xs,rfl,hq,fx,fs,q⟩:=h
 cases ry
 rcases hq with hq | hq
 ·obtain ⟨its,r,pl,hz⟩:=I.list hq
  refine SeqAt.in_listAt (wC x) pl.isList (fun w hw=>jt rx fx r fs w (by simpa using hw)) ⟨.bl _,H,I,rfl,?_⟩
  rw [show its.toArray.any (wC x)=its.any (wC x) by simp,lC r fs]
  exact q
 ·obtain ⟨its,r,pl,hz⟩:=I.tuple hq
  refine SeqAt.in_tupleAt (wC x) pl (fun w hw=>jt rx fx r fs w (by simpa using hw)) ⟨.bl _,H,I,rfl,?_⟩
  rw [show its.toArray.any (wC x)=its.any (wC x) by simp,lC r fs]
  exact q
theorem rS:gH X (compareOp .NotIn) (KO X.K true):=by
 intro pins s σ H x y v u Q I rx ry h
 obtain ⟨p,xs,rfl,hq,fx,fs,q⟩:=h
 cases ry
 rcases hq with hq | hq
 ·obtain ⟨its,r,pl,hz⟩:=I.list hq
  refine SeqAt.notIn_listAt (wC x) pl.isList (fun w hw=>jt rx fx r fs w (by simpa using hw)) ⟨.bl _,H,I,rfl,?_⟩
  rw [show its.toArray.any (wC x)=its.any (wC x) by simp,lC r fs]
  exact q
 ·obtain ⟨its,r,pl,hz⟩:=I.tuple hq
  refine SeqAt.notIn_tupleAt (wC x) pl (fun w hw=>jt rx fx r fs w (by simpa using hw)) ⟨.bl _,H,I,rfl,?_⟩
  rw [show its.toArray.any (wC x)=its.any (wC x) by simp,lC r fs]
  exact q
theorem rT:dU X (.builtin "len") (fun xs H Q=>∃ p ys,xs=[.ref p] /\ (fY X.K H p ys \/ jk X.K H p ys) /\ Q (.int ys.length) H):=by
 intro pins s σ H xs us Q I r h
 obtain ⟨p,ys,rfl,hq,q⟩:=h
 obtain ⟨u,rfl,rx⟩:=vals1 r
 cases rx
 have hn:=mx
 rcases hq with hq | hq
 ·obtain ⟨its,r',pl,hz⟩:=I.list hq
  have hlen:=r'.length
  exact Calls.call_len_list pl.isList (by simp only [List.size_toArray] <;> omega) ⟨.int ys.length,H,I.tok _,⟨s.toks + 1,by rw [List.size_toArray,hlen]⟩,q⟩
 ·obtain ⟨its,r',pl,hz⟩:=I.tuple hq
  have hlen:=r'.length
  exact len_tuple pl (by simp only [List.size_toArray] <;> omega) ⟨.int ys.length,H,I.tok _,⟨s.toks + 1,by rw [List.size_toArray,hlen]⟩,q⟩
theorem rV:dU X (.builtin "len") (fun xs H Q=>∃ z,xs=[.str z] /\ z.length<=sizeLine /\ Q (.int z.length) H):=by
 intro pins s σ H xs us Q I r h
 obtain ⟨z,rfl,hz,q⟩:=h
 obtain ⟨u,rfl,t,rfl⟩:=vals1 r
 have hn:=mx
 exact len_str (by omega) ⟨.int z.length,H,I.tok _,⟨_,rfl⟩,q⟩
theorem dU.or {f:Value} {r r':List V->Hp->VK->Prop} (h:dU X f r) (h':dU X f r'):dU X f (fun xs H Q=>r xs H Q \/ r' xs H Q):=by
 intro pins s σ H xs us Q I rs q
 rcases q with q | q
 ·exact h pins s σ H xs us Q I rs q
 ·exact h' pins s σ H xs us Q I rs q
theorem lD:dU X (.type "list") (fun xs H Q=>∃ p ys,xs=[.ref p] /\ (fY X.K H p ys \/ jk X.K H p ys) /\ ∀ l,H l=none->Q (.ref l) (upd H l (.lst ys))):=by
 intro pins s σ H xs us Q I r h
 obtain ⟨p,ys,rfl,hq,q⟩:=h
 obtain ⟨u,rfl,rx⟩:=vals1 r
 cases rx
 have fin:∀ (its:List Value),bf ys its->ys.length<=sizeLine->∀ (h':Heap) (c':Nat),(∀ b o',s.heap.get? b=some o'->h'.get? b=some o')->
   h'.get? s.heap.objs.size=some { cls:=.type "list",dict:=none,data:=.seq its.toArray c',slots:=#[] }->EP X pins σ Q (.ref s.heap.objs.size) { s with heap:=h' }:=fun its r' hz h' c' kp e=>
  ⟨.ref s.heap.objs.size,_,I.laid (t':=s.toks) kp (Nat.le_refl _) (show cF X.prog X.w _ h' _ (.lst ys) from ⟨hz,its,c',r',e⟩),rfl,q _ (I.bE.fresh (Nat.le_refl _))⟩
 rcases hq with hq | hq
 ·obtain ⟨its,r',pl,hz⟩:=I.list hq
  have hlen:=r'.length
  obtain ⟨o,ho,hc,n,hd⟩:=pl.isList
  exact call_list_seq p (.inl rfl) ho hc hd (fun h' c' kp e=>fin its r' hz h' c' kp e) (by simp only [List.size_toArray] <;> omega)
 ·obtain ⟨its,r',pl,hz⟩:=I.tuple hq
  have hlen:=r'.length
  obtain ⟨o,ho,hc,n,hd⟩:=pl
  exact call_list_seq p (.inr rfl) ho hc hd (fun h' c' kp e=>fin its r' hz h' c' kp e) (by simp only [List.size_toArray] <;> omega)
theorem kh:dU X (.type "tuple") (fun xs H Q=>∃ p ys,xs=[.ref p] /\ ((fY X.K H p ys /\ ∀ l,H l=none->Q (.ref l) (upd H l (.tup ys))) \/ (jk X.K H p ys /\ Q (.ref p) H))):=by
 intro pins s σ H xs us Q I r h
 obtain ⟨p,ys,rfl,h⟩:=h
 obtain ⟨u,rfl,rx⟩:=vals1 r
 cases rx
 rcases h with ⟨hq,q⟩ | ⟨hq,q⟩
 ·obtain ⟨its,r',pl,hz⟩:=I.list hq
  have hlen:=r'.length
  refine call_tuple_list pl.isList (fun h' kp=>?_) (by simp only [List.size_toArray] <;> omega)
  have I1:Inv X pins σ H { s with heap:=h' }:=I.kept (t':=s.toks) kp
  have I2:Inv X pins σ (upd H h'.objs.size (.tup ys)) { s with heap:=h'.push { cls:=.type "tuple",data:=.seq its.toArray } }:=
   I1.laid (t':=s.toks) (fun b o e=>Heap.get?_push_of_some _ e) (Nat.le_refl _) (show cF X.prog X.w _ _ _ (.tup ys) from ⟨hz,its,r',IsTup.new _ _⟩)
  exact ⟨.ref h'.objs.size,_,I2,rfl,q _ (I1.bE.fresh (Nat.le_refl _))⟩
 ·obtain ⟨its,r',pl,hz⟩:=I.tuple hq
  exact call_tuple_same pl ⟨.ref p,H,I,rfl,q⟩
def OA (K:PySem.W.Frag) (T:String) (x:V) (H:Hp):Prop:=match x with
 | .str _=>T="str"
 | .int _=>T="int"
 | .ref p=>(T="list" /\ ∃ xs,fY K H p xs) \/ (T="tuple" /\ ∃ o,K.lookup p=some o /\ o.cls=.type "tuple" /\ o.dict=none) \/
   (T="dict" /\ ((∃ aK,H p=some (.dK aK)) \/ ∃ aK,H p=some (.dT aK))) \/ (T="set" /\ ∃ S n,H p=some (.set S n))
 | _=>False
theorem BQ {pins:List (Addr×Obj)} {σ:St} {H:Hp} {s:Shared} {T:String} {x:V} {v:Value} (I:Inv X pins σ H s) (r:RelV x v) (ty:OA X.K T x H):
  s.TypeIs v T /\ ∀ a,v=.ref a->∃ ob,s.heap.get? a=some ob /\ ob.dict=none:=by
 cases x with
 | str z=>
   obtain ⟨t,rfl⟩:=r
   cases (show T="str" from ty)
   exact ⟨typeIs_str s z t,fun _ e=>nomatch e⟩
 | int i=>
   obtain ⟨t,rfl⟩:=r
   cases (show T="int" from ty)
   exact ⟨typeIs_int s i t,fun _ e=>nomatch e⟩
 | ref p=>
   cases r
   rcases ty with ⟨rfl,xs,hq⟩ | ⟨rfl,o,hk,hc,hd⟩ | ⟨rfl,hk⟩ | ⟨rfl,S,n,hk⟩
   ·obtain ⟨its,_,pl,_⟩:=I.list hq
    refine ⟨pl.isList.typeIs,fun a e=>?_⟩
    cases e
    obtain ⟨o,n,e,c,hd,_⟩:=pl
    exact ⟨o,e,hd⟩
   ·refine ⟨⟨o,I.v5 p o hk,hc⟩,fun a e=>?_⟩
    cases e
    exact ⟨o,I.v5 _ o hk,hd⟩
   ·have z:∃ o,s.heap.get? p=some o /\ o.ExactDict:=by
     rcases hk with ⟨aK,hk⟩ | ⟨aK,hk⟩
     ·obtain ⟨_,_,_,_,o,_,_,e,ex,_⟩:=I.bE p _ hk
      exact ⟨o,e,ex⟩
     ·obtain ⟨_,_,_,_,o,_,_,e,ex,_⟩:=I.bE p _ hk
      exact ⟨o,e,ex⟩
    obtain ⟨o,e,ex⟩:=z
    refine ⟨⟨o,e,ex.1⟩,fun a e2=>?_⟩
    cases e2
    exact ⟨o,e,ex.2.1⟩
   ·obtain ⟨o,_,_,_,e,ex,_⟩:=I.bE p _ hk
    refine ⟨⟨o,e,ex.1⟩,fun a e2=>?_⟩
    cases e2
    exact ⟨o,e,ex.2.1⟩
 | _=>exact False.elim ty
def LQ (K:PySem.W.Frag) (T:String) (r:V->List V->Hp->VK->Prop) (to:TE):TE:=fun σ H Q=>to σ H fun x H1=>OA K T x H1 /\ r x [] H1 Q
def NH (K:PySem.W.Frag) (T:String) (r:V->List V->Hp->VK->Prop) (to:TE) (t:TA):TE:=fun σ H Q=>to σ H fun x H1=>OA K T x H1 /\ t σ H1 fun xs H2=>r x xs H2 Q
variable {o e:Expr} {es:List Expr} {to:TE} {t:TA} {name:Str} {apos cM:Pos} {T id:String} {r:V->List V->Hp->VK->Prop}
theorem IK (pa:PlainAttrs T) (slot:Slot T name id) (OB:typeOf (.builtin id)=pure (.type "method_descriptor")) (hm:NG X id r) (ho:PE X o to)
  (oE:attributeBase o name X.env (eval o X.env)=eval o X.env:=by rfl) (oF:(apos.endLine == cM.line)=true:=by rfl):PE X (.Call (.Attribute o name apos) [] [] cM) (LQ X.K T r to):=by
 intro pins s σ H Q I h
 refine wpAny_Call_method0_late oE oF (dh (ho pins s σ H _ I h) fun v s1 ⟨x,H1,I1,r1,ty,q1⟩=>?_)
 obtain ⟨h1,h2⟩:=BQ I1 r1 ty
 exact ⟨T,id,pa,slot,OB,h1,h2,Calls.callWith_builtin rfl (PySem.evalArgs_none (hm pins s1 σ H1 x [] v [] Q I1 r1 .nil q1))⟩
theorem nj (pa:PlainAttrs T) (slot:Slot T name id) (OB:typeOf (.builtin id)=pure (.type "method_descriptor")) (hm:NG X id r) (ho:PE X o to) (ha:PA X (e :: es) t)
  (oE:attributeBase o name X.env (eval o X.env)=eval o X.env:=by rfl)
  (OC:((backTo cM (starEach (e :: es) X.env)).all (fun x=> !x.1) && (backToKw cM (keywordEach [] X.env)).all (fun x=>x.1.isSome)
   && decide ((e :: es).length + ([]:List Keyword).length + (if ([]:List Keyword).isEmpty then 0 else 1) < 30))=true:=by rfl)
  (oF:(apos.endLine == cM.line)=true:=by rfl) (hs:starEach (e :: es) X.env=(false,eval e X.env) :: starEach es X.env:=by rfl) (wD:(backTo cM (starEach es X.env)).any (·.1)=false:=by rfl):
  PE X (.Call (.Attribute o name apos) (e :: es) [] cM) (NH X.K T r to t):=by
 intro pins s σ H Q I h
 refine wpAny_Call_method_late oE OC oF rfl (dh (ho pins s σ H _ I h) fun v s1 ⟨x,H1,I1,r1,ty,q1⟩=>?_)
 obtain ⟨h1,h2⟩:=BQ I1 r1 ty
 refine ⟨T,id,pa,slot,OB,h1,h2,?_⟩
 have hA:=ha cM pins s1 σ H1 _ I1 q1
 rw [hs] at hA ⊢
 refine Calls.callWith_builtin (by show (false || (backTo cM (starEach es X.env)).any (·.1))=false; rw [wD] <;> rfl) (Calls.evalArgs_plain ?_)
 exact dh hA fun us s2 ⟨vs,H2,I2,r2,q2⟩=>hm pins s2 σ H2 x vs v us Q I2 r1 r2 q2
/- xs.append(e),list.index on a module's tuple .. are NG facts of 06m -/
end
def UH (X:Cx) (id:String) (r:V->List V->Hp->VK->Prop):Prop:=
 ∀ (pins:List (Addr×Obj)) (s:Shared) (σ:St) (H:Hp) (x:V) (xs:List V) (v:Value) (us:List Value) (Q:VK),Inv X pins σ H s->RelV x v->bf xs us->r x xs H Q->
   wpAny (model X.prog X.w) X.A (call (.builtin id) (v :: us)) (EP X pins σ Q) X.xe s
theorem bf.one:∀ {x:V} {us:List Value},bf [x] us->∃ u,us=[u] /\ RelV x u
 | _,_,.cons r .nil=>⟨_,rfl,r⟩
section
variable {X:Cx} {pins:List (Addr×Obj)} {σ:St} {H:Hp} {s:Shared} {l b:Addr} {xs ys zs:List V}
theorem Inv.LR {its its':List Value} {n:Nat} {f:Array Value->Array Value} {t':Nat} (I:Inv X pins σ H s) (hH:H l=some (.lst xs))
  (e:s.heap.get? l=some { cls:=.type "list",data:=.seq its.toArray n }) (hf:f its.toArray=its'.toArray) (hv:bf ys its') (hz:ys.length<=sizeLine):
  Inv X pins σ (upd H l (.lst ys)) { s with heap:=s.heap.update l (Obj.mapSeq f),toks:=t' }:=by
 have q:=PySem.IsL.update e f
 rw [hf] at q
 refine I.write (x:=l) (e:=l) (by rw [hH]; exact trivial) (.inl rfl) (fun b' u hb hu=>(Heap.get?_update_other s.heap (Obj.mapSeq f) (Ne.symm hb)).trans hu) ⟨_,q⟩ ?_
 exact ⟨hz,its',_,hv,q⟩
theorem Inv.OD {its:List Value} {t':Nat} (I:Inv X pins σ H s) (hv:bf ys its) (hz:ys.length<=sizeLine):
  Inv X pins σ (upd H s.heap.objs.size (.lst ys)) { s with heap:=s.heap.push { cls:=.type "list",data:=.seq its.toArray },toks:=t' }:=
 I.laid (fun _ _ q=>Heap.get?_push_of_some _ q) (Nat.le_refl _) ⟨hz,its,0,hv,Heap.get?_push_size _ rfl⟩
theorem Inv.fresh (I:Inv X pins σ H s):H s.heap.objs.size=none:=I.bE.fresh (Nat.le_refl _)
theorem Inv.IL (I:Inv X pins σ H s) (hH:H l=some (.lst xs)):xs.length<=sizeLine /\ ∃ (its:List Value) (n:Nat),bf xs its /\ xs.length=its.length /\ s.heap.get? l=some { cls:=.type "list",data:=.seq its.toArray n }:=by
 obtain ⟨z,its,n,r,e⟩:=I.bE l _ hH
 exact ⟨z,its,n,r,r.length,e⟩
theorem BR {n:Nat} (h:n<=sizeLine):Builtin.List.listTooLong n=false:=by
 unfold Builtin.List.listTooLong
 exact decide_eq_false (by omega)
end
section
variable {X:Cx}
def rW:V->List V->Hp->VK->Prop:=fun x vs H Q=>∃ l xs y,x=.ref l /\ vs=[y] /\ H l=some (.lst xs) /\ xs.length < sizeLine /\ Q .gU (upd H l (.lst (xs ++ [y])))
theorem jT:UH X "list.append" rW:=by
 intro pins s σ H x vs v us Q I rx rv h
 obtain ⟨l,xs,y,rfl,rfl,hH,hz,q⟩:=h
 cases rx
 obtain ⟨u,rfl,ru⟩:=rv.one
 obtain ⟨z,its,n,r,hl,e⟩:=I.IL hH
 refine call_meets F.slot_list_append ⟨_,e,rfl⟩ F.entry_list_append (F.args_list_append_2 _ _) (PySem.list_append l its.toArray n u (by rw [List.size_toArray]; omega)) ⟨e,?_⟩
 refine ⟨.gU,_,I.LR (its':=its ++ [u]) hH e (by simp) (r.append (.cons ru .nil)) ?_,rfl,q⟩
 rw [List.length_append,List.length_singleton]
 omega
def yH:V->List V->Hp->VK->Prop:=fun x vs H Q=>∃ l b xs zs,x=.ref l /\ vs=[.ref b] /\ H l=some (.lst xs) /\ H b=some (.lst zs) /\ xs.length + zs.length<=sizeLine /\ Q .gU (upd H l (.lst (xs ++ zs)))
theorem jU:UH X "list.extend" yH:=by
 intro pins s σ H x vs v us Q I rx rv h
 obtain ⟨l,b,xs,zs,rfl,rfl,hH,hB,hz,q⟩:=h
 cases rx
 obtain ⟨u,rfl,ru⟩:=rv.one
 cases ru
 obtain ⟨z,its,n,r,hl,e⟩:=I.IL hH
 obtain ⟨z2,qk,n2,r2,BS,e2⟩:=I.IL hB
 have hsz:its.toArray.size + qk.toArray.size<=sizeLine:=by rw [List.size_toArray,List.size_toArray]; omega
 have LU:¬ (!its.toArray.isEmpty && Builtin.List.listTooLong (its.toArray.size + qk.toArray.size))=true:=by
  rw [BR hsz,Bool.and_false]
  exact Bool.false_ne_true
 refine call_meets F.slot_list_extend ⟨_,e,rfl⟩ F.entry_list_extend (F.args_list_extend_2 _ _)
  (AutoSeq1.list_extend_list_list_0 l its.toArray n b qk.toArray n2 LU (by rw [List.size_toArray]; omega) (by omega)) ⟨e,e2,?_⟩
 refine ⟨.gU,_,I.LR (its':=its ++ qk) hH e (by simp) (r.append r2) ?_,rfl,q⟩
 rw [List.length_append]
 omega
end
section
variable {prog:Program} {w:World} {A:Around} {E:Value->Shared->Prop} {s:Shared}
end
section
variable {X:Cx}
end
end L2
namespace UI
open PySem PySem.W PySem.Calls PyProof.Rows
theorem nJ {P:Params} {h:Heap}:∀ (ns:List Int) (vs:List Value),WellAll P h vs (ns.map WData.int)->IntsAre vs ns:=by
 intro ns
 induction ns with
 | nil=>
   intro vs w
   rw [List.map_nil] at w
   cases w
   exact .nil
 | cons n ns ih=>
   intro vs w
   rw [List.map_cons] at w
   cases w with
   | cons a b=>
     cases a
     exact .cons _ _ (ih _ b)
theorem z5 {l:OpenLaw} {n:Nat} (hn:l.most=some n) {P:Params} {h:Heap} {args:List WData} {vals:List Value}
  (Fc:l.row.toRowW.claim.pre args=true) (OE:WellAll P h vals args):
  ∃ a vs ns,vals=[Value.ref a] /\ args=[WData.list (ns.map WData.int)] /\ h.get? a=some { cls:=.type "list",data:=.seq vs.toArray } /\ IntsAre vs ns /\ ns.length<=n:=by
 have hsh:WShape.hasAll [] args [.list .int]=true:=(pre_splitW Fc).1
 have hc:l.pre.holds [] { args:=args }=true:=(pre_splitW Fc).2
 obtain ⟨d,r,rfl,h1,h2⟩:=hasAllW_cons hsh
 obtain rfl:=hasAllW_nil h2
 obtain ⟨xs,rfl,h3⟩:=hasW_list h1
 obtain ⟨ns,rfl⟩:=items_int h3
 have hlen:ns.length<=n:=by
  unfold OpenLaw.pre at hc
  have h4:(WTm.not (.lt (.lit (.int (n:Int))) (.len (.arg 0)))).holds [] { args:=[.list (ns.map .int)] }=true:=by
   have h4:=(holds_andW hc).1
   rw [hn] at h4
   exact h4
  have h5:=condW_of h4 (w_not (w_lt w_lit (w_len_list (w_arg rfl))))
  rw [List.length_map] at h5
  refine Nat.le_of_not_lt fun q=>?_
  have q':(n:Int) < ((ns.length:Nat):Int):=by omega
  first
   | (rw [decide_eq_true q'] at h5; exact absurd h5 (by decide))
   | (simp at h5; omega)
 cases OE with
 | cons w1 w2=>
   cases w2
   cases w1 with
   | list ho LV=>exact ⟨_,_,ns,rfl,rfl,ho,nJ ns _ LV,hlen⟩
theorem z6 (l:OpenLaw) (args:List WData):l.row.toRowW.claim.post args (.bool true) args=true:=
 postW_of (r:=l.row.toRowW) (X:=(true == true))
  (show WShape.has [] (.bool true) .bool=true by first | rfl | decide | simp [WShape.has,WShape.arms,WShape.armsAll])
  (show (WTm.eq .res (.lit (.bool true))).value [] { args:=args,res:=some (.bool true),after:=args }=some (.bool (true == true)) from w_eq_bool (w_res rfl) w_lit) rfl
theorem ug {l:OpenLaw} {n:Nat} {q:Program} {loose:List Str} {XP:(Str->Option Value)->Heap->Prop} {YP:World->Heap->Prop} {d:DefRec}
  (hn:l.most=some n) (LW:d.params.defaults=[])
  (call:∀ (w:World) (eJ bu:Shared) (mg mb:Str->Option Value) (fa:Addr) (o:Obj) (pm cd doc:Value) (a:Addr) (vs:List Value) (ns:List Int),
   Ground q loose [] XP w eJ mg mb bu.heap->YP w bu.heap->
   bu.heap.get? fa=some o->o.data=.func (docDef d.name d.params d.body d.scope pm cd doc)->bu.heap.CodeRec cd d.name->mg d.name=some (.ref fa)->
   bu.heap.get? a=some { cls:=.type "list",data:=.seq vs.toArray }->IntsAre vs ns->ns.length<=n->bu.gens=#[]->
   codeAny (model l.prog w) callerA (.call (.ref fa) ⟨[.ref a],[]⟩) (fun r s'=>r=.ok (.ret (.bool true)) /\ OldK bu.heap s'.heap /\ s'.os=bu.os /\ AllBare s'.gens) bu):
  WalkO q loose XP YP l.row.toRowW d [] (fun f vs=>PySem.call f vs):=by
 intro w eJ bu mg mb G Y fa o pm cd doc dV kV ho hd qh hD LX hg args vals as Fc VU Zz OE ZA
 obtain rfl:dV=.none:=Dflts.none hD LW
 obtain rfl:kV=.none:=Dflts.noKw hD
 obtain ⟨a,vs,ns,rfl,rfl,IM,hints,hlen⟩:=z5 hn Fc OE
 refine enter_call (codeAny_mono (call w eJ bu mg mb fa o pm cd doc a vs ns G Y ho (fd_plain hd) qh LX IM hints hlen hg) fun r s' hq=>?_)
 obtain ⟨rfl,h2,h3,h4⟩:=hq
 exact ⟨.inl ⟨.bool true,.bool true,[],rfl,fun _=>rfl,.bool true,z6 l _,fun _=>⟨List.Pairwise.nil,fun _ hm=>(nomatch hm)⟩⟩,h2,h3,h4⟩
section
variable {prog:Program} {w:World} {A:Around} {E:Value->Shared->Prop} {s:Shared} {K:Frag}
end
end UI
namespace L2
open PySem PySem.Spec PyProof.Rows
theorem qS:∀ {vs:List Value} {ns:List Int},IntsAre vs ns->bf (ns.map V.int) vs
 | _,_,.nil=>.nil
 | _,_,.cons n t h=>.cons ⟨t,rfl⟩ (qS h)
def VW (H:Hp):Prop:=∀ b,H b=none \/ ∃ o xs,H b=some (.qe o (.lst xs))
def v7 (K:PySem.W.Frag) (H:Hp) (a:Addr) (xs:List V):Prop:=
 Rd H a (.lst xs) \/ ∃ (its:List Value) (n:Nat),K.lookup a=some { cls:=.type "list",data:=.seq its.toArray n } /\ its.length<=sizeLine /\ bf xs its
abbrev v8:Bl:=fun _ _ _ _ _ _=>False
abbrev E0:XK:=fun _ _ _=>False
theorem LY {X:Cx}:ku v8 X E0:=fun _ _ _ _ _ _ _ h=>h.elim
structure ij (K:PySem.W.Frag) (x qual:Str) (st:Stmt) (f:Addr) (fd:FuncData):Prop where
 ex:∃ (oc:Value) (od:Option Addr) (kV doc pm:Value) (an:Option Addr) (bR ct:Value) (wB:Array (Option Value)),
  fd=PySem.W.fnOf x qual (iQ st) (cD st) (ao st) .none kV doc pm an bR ct /\ K.lookup f=some ⟨oc,od,.func fd,wB⟩ /\ PySem.W.codeIn K bR qual=true
 kp:PySem.W.keepIn K (.ref f)=true
section
variable {P:Program} {w:World} {K:PySem.W.Frag} {mg:Str->Option Value} {base:Heap}
theorem ij.ok {x qual:Str} {st:Stmt} {f:Addr} {fd:FuncData} {N ps:List Str} {k:Nat} {sp:Sp} (F:ij K x qual st f fd) (S:aD N ps (ao st)) (len:∀ vs H Q E,sp vs H Q E->vs.length=ps.length)
  (lB:∀ (bR:Value) (A:Around) (outer:List Env) (s:Shared) (H:Hp) (vs:List V) (Q:VK) (E:XK),dq k (A.deeper (envOfC qual (ao st) s.heap.objs.size f bR))->sp vs H Q E->
   ∃ t,ji (fZ v8 P w K mg base N qual (ao st) f bR A outer s H E).G9 (cD st) t /\ t { nx:=fun _ H'=>Q .gU H',rt:=Q } (start N vs) H):nI P w K mg base v8 (k + 1) f fd ps sp:=by
 obtain ⟨oc,od,kV,doc,pm,an,bR,ct,wB,rfl,lk,qh⟩:=F.ex
 refine Hi lk qh S len fun A outer s H vs Q E hr BL=>?_
 obtain ⟨t,h,q⟩:=lB bR A outer s H vs Q E hr BL
 exact ⟨t,h.G9,q⟩
theorem ij.binds {x qual:Str} {st:Stmt} {f:Addr} {fd:FuncData} {ps:List Str} (F:ij K x qual st f fd)
  (h:∀ (kV doc pm:Value) (an:Option Addr) (bR ct:Value) (us:List Value),us.length=ps.length->bindArgs (PySem.W.fnOf x qual (iQ st) (cD st) (ao st) .none kV doc pm an bR ct) ⟨us,[]⟩=pure (ps.zip us)):Binds K fd ps []:=by
 obtain ⟨oc,od,kV,doc,pm,an,bR,ct,wB,rfl,lk,qh⟩:=F.ex
 exact .all (h kV doc pm an bR ct)
theorem bg {x qual:Str} {st:Stmt} {f:Addr} {oc:Value} {od an:Option Addr} {wB:Array (Option Value)} {kV doc pm bR ct:Value} (l:K.lookup f=some ⟨oc,od,.func (PySem.W.fnOf x qual (iQ st) (cD st) (ao st) .none kV doc pm an bR ct),wB⟩)
  (c:PySem.W.codeIn K bR qual=true) (k:PySem.W.keepIn K (.ref f)=true):ij K x qual st f (PySem.W.fnOf x qual (iQ st) (cD st) (ao st) .none kV doc pm an bR ct):=⟨⟨oc,od,kV,doc,pm,an,bR,ct,wB,rfl,l,c⟩,k⟩
end
def LZ:Option NameKind->Bool
 | some .local=>true
 | some .cell=>true
 | some .free=>true
 | _=>false
theorem IP {sc:Scope} {x:Str} (h:LZ (sc.names.lookup x)=true):KI sc x:=by
 unfold KI
 cases e:sc.names.lookup x with
 | none=>rw [e] at h; cases h
 | some k=>
   rw [e] at h
   cases k <;> first | exact .inl rfl | exact .inr (.inl rfl) | exact .inr (.inr rfl) | cases h
section
variable {X:Cx}
theorem pv (i:Nat) {x:Str} {pos:Pos} (hN:X.N[i]?=some x:=by rfl) (hv:LZ (X.env.scope.names.lookup x)=true:=by rfl) (hd:(x == ("__debug__":Str))=false:=by decide)
  (qh:(x == ("__classdict__":Str))=false:=by decide):PE X (.Name x pos) (qg i):=Ij hN (IP hv) hd qh
end
def az (H H':Hp):Prop:=∀ b o,H b=some o->H' b=some o
theorem az.refl (H:Hp):az H H:=fun _ _ h=>h
theorem az.trans {H H1 H2:Hp} (a:az H H1) (b:az H1 H2):az H H2:=fun c o h=>b c o (a c o h)
theorem az.free {H H':Hp} (e:az H H') {l:Addr} (h:H' l=Option.none):H l=Option.none:=by
 cases q:H l with
 | none=>rfl
 | some o=>
   rw [e l o q] at h
   cases h
section
variable {κ:Type} [DecidableEq κ]
def kx (aK:List (κ×V)) (k:κ):Option V:=(aK.find? fun kv=>decide (kv.1=k)).map (·.2)
def putK (aK:List (κ×V)) (k:κ) (v:V):List (κ×V):=
 if (aK.any fun kv=>decide (kv.1=k))=true then aK.map (fun kv=>if kv.1=k then (kv.1,v) else kv) else aK ++ [(k,v)]
theorem ju {p:κ×V} {r:List (κ×V)} {k:κ} (e:p.1=k):kx (p :: r) k=some p.2:=by simp [kx,List.find?_cons,e]
theorem jv {p:κ×V} {r:List (κ×V)} {k:κ} (e:¬ p.1=k):kx (p :: r) k=kx r k:=by simp [kx,List.find?_cons,e]
theorem oG (k:κ):∀ aK:List (κ×V),(aK.any fun kv=>decide (kv.1=k))=(kx aK k).isSome
 | []=>rfl
 | p :: r=>by
   rw [List.any_cons]
   by_cases e:p.1=k
   ·simp only [ju e,decide_eq_true e,Bool.true_or,Option.isSome_some]
   ·rw [jv e,decide_eq_false e,Bool.false_or]; exact oG k r
theorem nk (aK:List (κ×V)) (k:κ) (v:V):(putK aK k v).length<=aK.length + 1:=by
 unfold putK
 split
 ·rw [List.length_map]; omega
 ·rw [List.length_append,List.length_cons,List.length_nil]; omega
theorem nF.z7 {o:Option V} {u:Option Value} (r:nF o u):o.isSome=u.isSome:=by
 cases o with
 | none=>cases u with
   | none=>rfl
   | some _=>exact (show False from r).elim
 | some _=>cases u with
   | none=>exact (show False from r).elim
   | some _=>rfl
theorem nF.getD {o:Option V} {u:Option Value} {d:V} {d':Value} (r:nF o u) (rd:RelV d d'):RelV (o.getD d) (u.getD d'):=by
 cases o with
 | none=>cases u with
   | none=>exact rd
   | some _=>exact (show False from r).elim
 | some _=>cases u with
   | none=>exact (show False from r).elim
   | some _=>exact r
theorem KV.val {aK:List (κ×V)} {vs:List (κ×Value)} (r:KV aK vs) (k:κ):nF (kx aK k) (valueAt vs k):=by
 unfold KV at r
 induction r with
 | nil=>exact True.intro
 | @cons p q ps qs h t ih=>
   obtain ⟨h1,h2⟩:=h
   by_cases e:p.1=k
   ·have e':q.1=k:=h1.symm.trans e
    have b:valueAt (q :: qs) k=some q.2:=by simp [valueAt,List.find?_cons,e']
    rw [ju e,b]; exact h2
   ·have e':¬ q.1=k:=fun z=>e (h1.trans z)
    have b:valueAt (q :: qs) k=valueAt qs k:=by simp [valueAt,List.find?_cons,e']
    rw [jv e,b]; exact ih
theorem KV.any {aK:List (κ×V)} {vs:List (κ×Value)} (r:KV aK vs) (k:κ):(aK.any fun kv=>decide (kv.1=k))=vs.any fun kv=>decide (kv.1=k):=by
 unfold KV at r
 induction r with
 | nil=>rfl
 | cons h t ih=>rw [List.any_cons,List.any_cons,ih,h.1]
theorem KV.IQ {aK:List (κ×V)} {vs:List (κ×Value)} (r:KV aK vs) (k:κ) {y:V} {u:Value} (ry:RelV y u):
  KV (aK.map fun kv=>if kv.1=k then (kv.1,y) else kv) (vs.map fun kv=>if kv.1=k then (kv.1,u) else kv):=by
 unfold KV at r ⊢
 induction r with
 | nil=>exact .nil
 | @cons p q ps qs h t ih=>
   rw [List.map_cons,List.map_cons]
   refine .cons ?_ ih
   obtain ⟨h1,h2⟩:=h
   by_cases e:p.1=k
   ·rw [if_pos e,if_pos (h1.symm.trans e)]; exact ⟨h1,ry⟩
   ·rw [if_neg e,if_neg (fun z=>e (h1.trans z))]; exact ⟨h1,h2⟩
theorem KV.put {aK:List (κ×V)} {vs:List (κ×Value)} (r:KV aK vs) (k:κ) {y:V} {u:Value} (ry:RelV y u):KV (putK aK k y) (stored vs k u):=by
 unfold putK stored
 rw [r.any k]
 by_cases e:(vs.any fun kv=>decide (kv.1=k))=true
 ·rw [if_pos e,if_pos e]; exact r.IQ k ry
 ·rw [if_neg e,if_neg e]; exact Paired.snoc r ⟨rfl,ry⟩
theorem KV.length {aK:List (κ×V)} {vs:List (κ×Value)} (r:KV aK vs):aK.length=vs.length:=Paired.length r
end
theorem yI {P:Program} {w:World} {k:Key} {u:Value} (r:RelV (kV k) u):(cE P w).is k u=true:=by
 cases k with
 | inl i=>obtain ⟨t,e⟩:=(show ∃ t,u=Value.int i t from r); subst e; exact t7 P w i t
 | inr x=>obtain ⟨t,e⟩:=(show ∃ t,u=Value.str x t from r); subst e; exact t8 P w x t
theorem qT {P:Program} {w:World}:∀ {ks:List Key} {us:List Value},bf (ks.map kV) us->ItemsAre (cE P w) ks us
 | [],_,r=>by rw [List.map_nil] at r; cases r; exact .nil
 | k :: ks,_,r=>by
   rw [List.map_cons] at r
   cases r with
   | cons h t=>exact .cons (yI h) (qT t)
abbrev KT (H:Hp):List (List Key×V)->List (List Key×Addr×Value)->Prop:=Paired fun p q=>p.1=q.1 /\ cx H q.2.1 (p.1.map kV) /\ RelV p.2 q.2.2
theorem KT.val {H:Hp} {aK:List (List Key×V)} {xs:List (List Key×Addr×Value)} (r:KT H aK xs) (k:List Key):nF (kx aK k) ((atKey xs k).map (·.2)):=by
 induction r with
 | nil=>exact True.intro
 | @cons p q ps qs h t ih=>
   obtain ⟨h1,_,h2⟩:=h
   by_cases e:p.1=k
   ·have e':q.1=k:=h1.symm.trans e
    have b:atKey (q :: qs) k=some q.2:=by simp [atKey,List.find?_cons,e']
    rw [ju e,b]; exact h2
   ·have e':¬ q.1=k:=fun z=>e (h1.trans z)
    have b:atKey (q :: qs) k=atKey qs k:=by simp [atKey,List.find?_cons,e']
    rw [jv e,b]; exact ih
theorem KT.IQ {H:Hp} {aK:List (List Key×V)} {xs:List (List Key×Addr×Value)} (r:KT H aK xs) (k:List Key) {y:V} {u:Value} (ry:RelV y u):
  KT H (aK.map fun kv=>if kv.1=k then (kv.1,y) else kv) (xs.map (putAt k u)):=by
 induction r with
 | nil=>exact .nil
 | @cons p q ps qs h t ih=>
   rw [List.map_cons,List.map_cons]
   refine .cons ?_ ih
   obtain ⟨h1,h2,h3⟩:=h
   unfold putAt
   by_cases e:p.1=k
   ·rw [if_pos e,if_pos (h1.symm.trans e)]; exact ⟨h1,h2,ry⟩
   ·rw [if_neg e,if_neg (fun z=>e (h1.trans z))]; exact ⟨h1,h2,h3⟩
theorem KT.put {H:Hp} {aK:List (List Key×V)} {xs:List (List Key×Addr×Value)} (r:KT H aK xs) (k:List Key) {b:Addr} {y:V} {u:Value} (hb:cx H b (k.map kV)) (ry:RelV y u):
  KT H (putK aK k y) (storedH xs k b u):=by
 have e:(aK.any fun kv=>decide (kv.1=k))=(atKey xs k).isSome:=by
  rw [oG,(r.val k).z7,Option.isSome_map]
 unfold putK storedH
 rw [e]
 by_cases q:(atKey xs k).isSome=true
 ·rw [if_pos q,if_pos q]; exact r.IQ k ry
 ·rw [if_neg q,if_neg q]; exact Paired.snoc r ⟨rfl,hb,ry⟩
theorem KT.keeps {H H':Hp} {aK:List (List Key×V)} {xs:List (List Key×Addr×Value)} (r:KT H aK xs) (ht:∀ b ys,cx H b ys->cx H' b ys):KT H' aK xs:=
 Paired.Ie r fun _ _ z=>⟨z.1,ht _ _ z.2.1,z.2.2⟩
section
variable {P:Program} {w:World} {H:Hp} {h:Heap} {a:Addr}
theorem Hk {u:HO} (ok:ka P w H h) (e:Rd H a u):cF P w H h a u:=e.ok ok
theorem uh {aK:List (Key×V)} (ok:ka P w H h) (e:Rd H a (.dK aK)):aK.length<=sizeLine /\ (a == sysModules)=false /\ ∃ vs,KV aK vs /\ h.DictOf (cE P w) a vs:=
 show cF P w H h a (.dK aK) from Hk ok e
theorem L3 {aK:List (Key×V)} (ok:ka P w H h) (e:H a=some (.dK aK)):aK.length<=sizeLine /\ (a == sysModules)=false /\ ∃ vs,KV aK vs /\ h.DictOf (cE P w) a vs:=uh ok (.inl e)
theorem oH {ks:List Key} (ok:ka P w H h) (e:cx H a (ks.map kV)):(tupleKind (cE P w)).is h ks a:=by
 obtain ⟨_,its,r,o,h1,h2,n,h3⟩:=(show cF P w H h a (.tup (ks.map kV)) from Rd.ok e ok)
 exact ⟨o,its.toArray,n,h1,h2,h3,by simpa using qT r⟩
theorem ui {aK:List (List Key×V)} (ok:ka P w H h) (e:Rd H a (.dT aK)):aK.length<=sizeLine /\ (a == sysModules)=false /\
  ∃ xs,KT H aK xs /\ h.DictOfH (tupleKind (cE P w)) a xs:=by
 obtain ⟨z,y,xs,r,o,es,ep,h1,h2,h3,h4,h5⟩:=(show cF P w H h a (.dT aK) from Hk ok e)
 refine ⟨z,y,xs,r,o,es,ep,h1,h2,h3,h4,fun x hx=>?_,h5⟩
 have all:∀ {l:List (List Key×V)} {m:List (List Key×Addr×Value)},KT H l m->∀ x∈m,(tupleKind (cE P w)).is h x.1 x.2.1:=by
  intro l m q
  induction q with
  | nil=>intro x hx; exact nomatch hx
  | @cons p q ps qs hq t ih=>
    intro x hx
    rcases List.mem_cons.mp hx with e | hx
    ·subst e
     exact oH ok (by rw [<- hq.1]; exact hq.2.1)
    ·exact ih x hx
 exact all r x hx
theorem Hl {aK:List (List Key×V)} (ok:ka P w H h) (e:H a=some (.dT aK)):aK.length<=sizeLine /\ (a == sysModules)=false /\
  ∃ xs,KT H aK xs /\ h.DictOfH (tupleKind (cE P w)) a xs:=ui ok (.inl e)
end
def qo (H:Hp) (a:Addr) (y:V) (r:Option V):Prop:=
 (∃ aK k,Rd H a (.dK aK) /\ y=kV k /\ r=kx aK k) \/ ∃ aK k b,Rd H a (.dT aK) /\ y=.ref b /\ cx H b (k.map kV) /\ r=kx aK k
def z8 (H:Hp) (a:Addr) (y v:V) (H':Hp):Prop:=
 (∃ aK k,H a=some (.dK aK) /\ y=kV k /\ aK.length < sizeLine /\ H'=upd H a (.dK (putK aK k v))) \/
 ∃ aK k b,H a=some (.dT aK) /\ y=.ref b /\ cx H b (k.map kV) /\ aK.length < sizeLine /\ H'=upd H a (.dT (putK aK k v))
theorem qo.t {H:Hp} {a b:Addr} {aK:List (List Key×V)} {k:List Key} (e:H a=some (.dT aK)) (eb:cx H b (k.map kV)):qo H a (.ref b) (kx aK k):=.inr ⟨aK,k,b,.inl e,rfl,eb,rfl⟩
theorem z8.t {H:Hp} {a b:Addr} {aK:List (List Key×V)} {k:List Key} {v:V} (e:H a=some (.dT aK)) (eb:cx H b (k.map kV)) (hl:aK.length < sizeLine):
  z8 H a (.ref b) v (upd H a (.dT (putK aK k v))):=.inr ⟨aK,k,b,e,rfl,eb,hl,rfl⟩
section
variable {X:Cx} {pins:List (Addr×Obj)} {σ:St} {H:Hp} {s:Shared} {a:Addr} {y v:V} {u r:Value} {o:Option V} {A:Around} {E:Value->Shared->Prop}
theorem Inv.NI (I:Inv X pins σ H s):sysModules < s.heap.objs.size:=by
 have h:mainGlobals < s.heap.objs.size:=(I.mod.glob.keeps I.bk).lt
 exact Nat.lt_trans (by decide) h
theorem z9 {Q:Value->Shared->Prop} (hu:A.units + 1 < cLine) (I:Inv X pins σ H s) (g:qo H a y (some v)) (ry:RelV y u) (h:∀ w' s',Inv X pins σ H s'->RelV v w'->Q w' s'):
  wpAny (model X.prog X.w) A (getItem (.ref a) u) Q E s:=by
 rcases g with ⟨aK,k,e,ey,l⟩ | ⟨aK,k,b,e,ey,eb,l⟩
 ·subst ey
  obtain ⟨z,hd,vs,rel,dd⟩:=uh I.bE e
  obtain ⟨w',hw,zZ⟩:=nF.some_of (v:=v) (o:=valueAt vs k) (by rw [l]; exact rel.val k)
  exact wpAny_getItem_of (yI ry) dd.mapOf hw (h w' _ (I.tok _) zZ)
 ·subst ey
  cases (show u=Value.ref b from ry)
  obtain ⟨z,hd,xs,rel,dd⟩:=ui I.bE e
  obtain ⟨w',hw,zZ⟩:=nF.some_of (v:=v) (o:=(atKey xs k).map (·.2)) (by rw [l]; exact rel.val k)
  obtain ⟨p,hp,NJ⟩:=Option.map_eq_some_iff.mp hw
  refine wpAny_getItem_heap (tupleKind_room_in1 hu) (oH I.bE eb) dd hp ?_
  rw [NJ]
  exact h w' _ (I.tok _) zZ
theorem rX {h':Heap} {t':Nat} {ob:HO} (I:Inv X pins σ H s) (mu:Lh (H a)) (hs:Heap.SameBut a s.heap h') (he:∃ q,h'.get? a=some q) (new:cF X.prog X.w (upd H a ob) h' a ob):
  Inv X pins σ (upd H a ob) { s with heap:=h',toks:=t' }:=
 I.write (x:=a) (e:=a) mu (.inl rfl) (fun b q hb z=>(hs.2 b hb).trans z) he new
theorem IS {P:Program} {w:World} {H':Hp} {h':Heap} {aK:List (Key×V)} {vs:List (Key×Value)} (z:aK.length<=sizeLine) (hd:(a == sysModules)=false) (rel:KV aK vs) (dd:h'.DictOf (cE P w) a vs):
  cF P w H' h' a (.dK aK):=⟨z,hd,vs,rel,dd⟩
theorem Aa {H':Hp} {Q:Unit->Shared->Prop} (hu:A.units + 1 < cLine) (I:Inv X pins σ H s) (g:z8 H a y v H') (ry:RelV y u) (rv:RelV v r) (h:∀ s',Inv X pins σ H' s'->Q () s'):
  wpAny (model X.prog X.w) A (setItem (.ref a) u r) Q E s:=by
 rcases g with ⟨aK,k,e,ey,l,eH⟩ | ⟨aK,k,b,e,ey,eb,l,eH⟩
 ·subst ey eH
  obtain ⟨z,hd,vs,rel,dd⟩:=L3 I.bE e
  have hz:vs.length<=sizeLine:=by rw [<- rel.length]; exact z
  have hl:(putK aK k v).length<=sizeLine:=by have:=nk aK k v; omega
  refine wpAny_setItem_pairs (hsz:=hz) (yI ry) dd fun h' KP hs=>h _ ?_
  have he:∃ q,h'.get? a=some q:=let ⟨q,_,_,hq,_⟩:=KP; ⟨q,hq⟩
  exact rX I (by rw [e]; exact True.intro) hs he (IS hl hd (rel.put k rv) KP)
 ·subst ey eH
  cases (show u=Value.ref b from ry)
  obtain ⟨z,hd,xs,rel,dd⟩:=Hl I.bE e
  have hz:xs.length<=sizeLine:=by rw [<- Paired.length rel]; exact z
  have hl:(putK aK k v).length<=sizeLine:=by have:=nk aK k v; omega
  refine wpAny_setItem_heap (hsz:=hz) (tupleKind_room_in1 hu) (oH I.bE eb) dd fun h' KP hs=>h _ ?_
  obtain ⟨q,es,ep,hq,h2,h3,h4,_,h5⟩:=KP
  refine rX I (by rw [e]; exact True.intro) hs ⟨q,hq⟩ ⟨hl,hd,_,(rel.put k eb rv).keeps fun c ys ec=>?_,q,es,ep,hq,h2,h3,h4,h5⟩
  exact ec.dT e
end
section
variable {X:Cx} {pins:List (Addr×Obj)} {σ:St} {H:Hp} {s:Shared} {a:Addr} {aK:List (Key×V)} {k:Key} {u:Value} {A:Around} {E:Value->Shared->Prop}
end
def IT (i:Expr):Prop:=∀ ov iv,subscripted i false ov iv=operate [ov,iv] (getItem ov iv)
theorem Fd {prog:Program} {w:World} {A:Around} {E:Value->Shared->Prop} {s:Shared} {env:Env} {value slice:Expr} {pos:Pos} {T id:String} {Q:Value->Shared->Prop}
  (hl:typeLookup (.type T) "__getitem__"=pure (some (.builtin id))) (hs:IT slice)
  (h:wpAny (model prog w) A (eval value env) (fun o bu=>wpAny (model prog w) A (eval slice env) (fun i kc=>kc.TypeIs o T /\ wpAny (model prog w) A (getItem o i) Q E kc) E bu) E s):
  wpAny (model prog w) A (eval (.Subscript value slice pos) env) Q E s:=by
 refine Subscript_ (wpAny_mono h (fun o bu iz=>wpAny_mono iz (fun i kc oJ=>?_) fun _ _ x=>x) fun _ _ x=>x)
 obtain ⟨hT,oJ⟩:=oJ
 unfold subscriptTail
 refine wpAny_bind ?_
 rw [getitemInPython_of_ne hT.not_modules]
 refine wpAny_bind (wpAny_specialOf hT hl ?_)
 have fin:wpAny (model prog w) A (subscripted slice false o i) (fun r iR=>wpAny (model prog w) A (letTemporaryGo value o r >>= fun _=>pure r) Q E iR) E kc:=by
  rw [hs o i]
  exact wpAny_operating (wpAny_mono oJ (fun r iR IU=>wpAny_bind (wpAny_letTemporaryGo (wpAny_pure IU))) fun _ _ x=>x)
 first
  | exact wpAny_pure (wpAny_bind fin)
  | exact wpAny_bind (wpAny_pure (wpAny_bind fin))
  | exact wpAny_bind fin
theorem uj {X:Cx} {pins:List (Addr×Obj)} {σ:St} {H:Hp} {s:Shared} {a:Addr} {y:V} {o:Option V} (I:Inv X pins σ H s) (g:qo H a y o):s.TypeIs (.ref a) "dict":=by
 rcases g with ⟨aK,k,e,_,_⟩ | ⟨aK,k,b,e,_,_,_⟩
 ·obtain ⟨_,_,vs,_,dd⟩:=uh I.bE e
  exact dd.typeIs
 ·obtain ⟨_,_,xs,_,dd⟩:=ui I.bE e
  exact dd.typeIs
def Hm (td ty:TE):TE:=fun σ H Q=>td σ H fun x H1=>ty σ H1 fun y H2=>∃ a v,x=.ref a /\ qo H2 a y (some v) /\ Q v H2
def BU (td ty tv:TE):TS:=fun D σ H=>tv σ H fun v H1=>td σ H1 fun x H2=>ty σ H2 fun y H3=>∃ a H4,x=.ref a /\ z8 H3 a y v H4 /\ D.nx σ H4
section
variable {X:Cx} {o i e value:Expr} {pos pos' ig:Pos} {td ty tv:TE}
theorem yJ (hu:X.A.units + 1 < cLine) (ho:PE X o td) (hi:PE X i ty) (hs:IT i):PE X (.Subscript o i pos) (Hm td ty):=by
 intro pins s σ H Q I h
 refine Fd PySem.F.slot_dict_getitem.lookup hs (dh (ho pins s σ H _ I h) fun u s1 ⟨x,H1,I1,rx,q1⟩=>dh (hi pins s1 σ H1 _ I1 q1) fun iv s2 ⟨y,H2,I2,ry,a,v,ex,g,q2⟩=>?_)
 subst ex
 obtain rfl:u=Value.ref a:=rx
 exact ⟨uj I2 g,z9 hu I2 g ry fun w' s3 I3 zZ=>⟨v,H2,I3,zZ,q2⟩⟩
theorem rY (hu:X.A.units + 1 < cLine) (ho:PE X o td) (hi:PE X i ty) (hv:PE X value tv) (hs:swapsWith value (some (.Subscript o i pos')) pos.line X.env=pure false):
  PS X (.Assign [.Subscript o i pos'] value pos) (BU td ty tv):=by
 intro pins s σ H D I h
 refine wpAny_Assign_Subscript (dh (hv pins s σ H _ I h) fun r s1 ⟨v,H1,I1,rv,q1⟩=>dh (ho pins s1 σ H1 _ I1 q1) fun u s2 ⟨x,H2,I2,rx,q2⟩=>dh (hi pins s2 σ H2 _ I2 q2) fun iv s3 ⟨y,H3,I3,ry,a,H4,ex,g,q3⟩=>?_) hs
 subst ex
 obtain rfl:u=Value.ref a:=rx
 exact Aa hu I3 g ry rv fun s4 I4=>⟨σ,H4,I4,q3⟩
end
theorem uk {P:Program} {w:World} {H:Hp} (h:Heap) (hb:sysModules < h.objs.size):cF P w H (h.push { cls:=.type "dict",data:=.dict #[] }) h.objs.size (.dT []):=
 ⟨Nat.zero_le _,beq_eq_false_iff_ne.mpr (Ne.symm (Nat.ne_of_lt hb)),[],.nil,_,#[],0,Heap.get?_push_size _ rfl,⟨rfl,rfl,rfl⟩,rfl,rfl,List.nodup_nil⟩
def IV:TE:=fun _ H Q=>∀ p,H p=none->Q (.ref p) (upd H p (.dT []))
section
variable {X:Cx} {pos:Pos}
theorem BV:PE X (.Dict [] [] pos) IV:=fun pins s σ H Q I h=>
 wpAny_Dict_empty ⟨.ref s.heap.objs.size,_,I.laid (a:=s.heap.objs.size) (o:=.dT []) (t':=s.toks) (fun _ _ q=>Heap.get?_push_of_some _ q) (Nat.le_refl _) (uk s.heap I.NI),rfl,h _ (I.bE.fresh (Nat.le_refl _))⟩
end
def wF:List (TE×TE)->St->Hp->(List (V×V)->Hp->Prop)->Prop
 | [],_,H,Q=>Q [] H
 | (tk,tv) :: r,σ,H,Q=>tk σ H fun x H1=>tv σ H1 fun y H2=>wF r σ H2 fun ps H3=>Q ((x,y) :: ps) H3
abbrev VV:List (V×V)->List (Value×Value)->Prop:=Paired fun p q=>RelV p.1 q.1 /\ RelV p.2 q.2
def NK (X:Cx) (pos:Pos) (keys:List (Option Expr)) (values:List Expr) (NL:List (TE×TE)):Prop:=
 ∀ (pins:List (Addr×Obj)) (s:Shared) (σ:St) (H:Hp) (Q:List (V×V)->Hp->Prop),Inv X pins σ H s->wF NL σ H Q->
   wpAny (model X.prog X.w) X.A (evalPairs (pairTrees keys values X.env pos)) (fun vs s'=>∃ ps H',Inv X pins σ H' s' /\ VV ps vs /\ Q ps H') X.xe s
theorem Fe {X:Cx} {pos:Pos}:NK X pos [] [] []:=fun pins s σ H Q I h=>pairTrees_nil_walk ⟨[],H,I,.nil,h⟩
theorem BW {X:Cx} {pos:Pos} {k v:Expr} {ks:List (Option Expr)} {vs:List Expr} {tk tv:TE} {NL:List (TE×TE)} (hk:PE X k tk) (hv:PE X v tv) (hr:NK X pos ks vs NL):
  NK X pos (some k :: ks) (v :: vs) ((tk,tv) :: NL):=fun pins s σ H Q I h=>
 pairTrees_cons_walk (dh (hk pins s σ H _ I h) fun u s1 ⟨x,H1,I1,rx,q1⟩=>dh (hv pins s1 σ H1 _ I1 q1) fun w2 s2 ⟨y,H2,I2,ry,q2⟩=>
  dh (hr pins s2 σ H2 _ I2 q2) fun ws s3 ⟨ps,H3,I3,rel,q3⟩=>⟨(x,y) :: ps,H3,I3,.cons ⟨rx,ry⟩ rel,q3⟩)
structure M2 (X:Cx) (o:Expr) (m:Str) (apos:Pos) (e f:Expr) (cM:Pos):Prop where
 base:attributeBase o m X.env (eval o X.env)=eval o X.env
 BX:((backTo cM (starEach [e,f] X.env)).all (fun x=> !x.1) && (backToKw cM (keywordEach [] X.env)).all (fun x=>x.1.isSome)
  && decide (([e,f]:List Expr).length + ([]:List Keyword).length + (if ([]:List Keyword).isEmpty then 0 else 1) < 30))=true
 line:(apos.endLine == cM.line)=true
 trees:backTo cM (starEach [e,f] X.env)=[(false,eval e X.env),(false,eval f X.env)]
def Hn (H:Hp) (a:Addr):Prop:=(∃ aK,Rd H a (.dK aK)) \/ ∃ aK,Rd H a (.dT aK)
theorem IW {X:Cx} {pins:List (Addr×Obj)} {σ:St} {H:Hp} {s:Shared} {a:Addr} (I:Inv X pins σ H s) (d:Hn H a):
  s.TypeIs (.ref a) "dict" /\ (∀ b,Value.ref a=.ref b->∃ ob,s.heap.get? b=some ob /\ ob.dict=none) /\ (a == sysModules)=false:=by
 rcases d with ⟨aK,e⟩ | ⟨aK,e⟩
 ·obtain ⟨_,hd,vs,_,dd⟩:=uh I.bE e
  refine ⟨dd.typeIs,fun b q=>?_,hd⟩
  cases q
  obtain ⟨ob,_,_,h1,h2,_⟩:=dd
  exact ⟨ob,h1,h2.2.1⟩
 ·obtain ⟨_,hd,xs,_,dd⟩:=ui I.bE e
  refine ⟨dd.typeIs,fun b q=>?_,hd⟩
  cases q
  obtain ⟨ob,_,_,h1,h2,_⟩:=dd
  exact ⟨ob,h1,h2.2.1⟩
section
variable {X:Cx} {pins:List (Addr×Obj)} {σ:St} {H:Hp} {s:Shared} {a:Addr} {y d:V} {u r:Value} {o:Option V} {A:Around} {E:Value->Shared->Prop}
theorem IX {Q:Value->Shared->Prop} (hu:A.units + 1 < cLine) (I:Inv X pins σ H s) (g:qo H a y o) (ry:RelV y u) (rd:RelV d r) (h:∀ w' s',Inv X pins σ H s'->RelV (o.getD d) w'->Q w' s'):
  wpAny (model X.prog X.w) A (call (.builtin "dict.get") [.ref a,u,r]) Q E s:=by
 rcases g with ⟨aK,k,e,ey,l⟩ | ⟨aK,k,b,e,ey,eb,l⟩
 ·subst ey
  obtain ⟨z,hd,vs,rel,dd⟩:=uh I.bE e
  refine call_meetsIn PySem.F.slot_dict_get dd.typeIs PySem.F.entry_dict_get (PySem.F.args_dict_get_3 _ _ _) (meets_dict_get_default (cE X.prog X.w) a (yI ry) hd r) ⟨_,dd.mapOf,h _ _ (I.tok _) ?_⟩
  rw [l]
  exact (rel.val k).getD rd
 ·subst ey
  cases (show u=Value.ref b from ry)
  obtain ⟨z,hd,xs,rel,dd⟩:=ui I.bE e
  refine call_meetsIn PySem.F.slot_dict_get dd.typeIs PySem.F.entry_dict_get (PySem.F.args_dict_get_3 _ _ _) (meetsH_dict_get_default (tupleKind (cE X.prog X.w)) a b hd r) ⟨tupleKind_room_in1 hu,k,xs,oH I.bE eb,dd,h _ _ (I.tok _) ?_⟩
  rw [l]
  exact (rel.val k).getD rd
end
def IY (td ty tx:TE):TE:=fun σ H Q=>td σ H fun x H1=>∃ a,x=.ref a /\ Hn H1 a /\ ty σ H1 fun y H2=>tx σ H2 fun z H3=>∃ o,qo H3 a y o /\ Q (o.getD z) H3
section
variable {X:Cx} {o e f:Expr} {apos cM:Pos} {td ty tx:TE}
theorem BY (hu:X.A.units + 1 < cLine) (ho:PE X o td) (he:PE X e ty) (hf:PE X f tx) (m:M2 X o "get" apos e f cM):PE X (.Call (.Attribute o "get" apos) [e,f] [] cM) (IY td ty tx):=by
 intro pins s σ H Q I h
 refine wpAny_Call_method m.base m.BX m.line PySem.F.plainAttrs_dict PySem.F.slot_dict_get PySem.F.type_dict_get (dh (ho pins s σ H _ I h) fun u s1 ⟨x,H1,I1,rx,a,ex,d,q1⟩=>?_)
 subst ex
 obtain rfl:u=Value.ref a:=rx
 obtain ⟨t1,t2,_⟩:=IW I1 d
 refine ⟨t1,t2,?_⟩
 rw [m.trees]
 refine Calls.callWith_builtin rfl (Calls.evalArgs_plain (Calls.spliced_cons (dh (he pins s1 σ H1 _ I1 q1) fun iv s2 ⟨y,H2,I2,ry,q2⟩=>
  Calls.spliced_cons (dh (hf pins s2 σ H2 _ I2 q2) fun fv s3 ⟨z,H3,I3,rz,ov,g,q3⟩=>Calls.spliced_nil ?_))))
 exact IX hu I3 g ry rz fun w' s4 I4 zZ=>⟨_,H3,I4,zZ,q3⟩
end
end L2
set_option maxHeartbeats 4000000
namespace L2
open PySem PySem.Spec PyProof.Rows
section
variable {X:Cx}
theorem bO:gH X (binaryOp .Mult) (rI IntMulOk fun i j=>.int (i * j)):=LC fun _ _ _ _ _ _ _ hc q=>mul_int q hc
def yK (i j:Int):Prop:=j≠0 /\ Builtin.divisionGoesByPylong i j=false
theorem dr:gH X (binaryOp .FloorDiv) (rI yK fun i j=>.int (i.fdiv j)):=LC fun _ _ _ _ _ _ _ hc q=>floordiv_int hc.1 q (.inl hc.2)
theorem qU {i j:Int} (h:Builtin.Int.intBits j<=9000):Builtin.divisionGoesByPylong i j=false:=by
 refine PyProof.noPylong_of_log2 ?_
 unfold Builtin.Int.intBits at h
 by_cases hj:j=0
 ·subst hj; decide +kernel
 ·rw [if_neg (by simpa using hj)] at h
  omega
theorem mul_right {i j:Int} (h1: -(2 ^ 64) < j) (h2:j < 2 ^ 64):IntMulOk i j:=.of_right (intBits_le_64 h1 h2)
theorem mul_left {i j:Int} (h1: -(2 ^ 64) < i) (h2:i < 2 ^ 64):IntMulOk i j:=.of_left (intBits_le_64 h1 h2)
def Dn (P:Program) (w:World) (K:PySem.W.Frag) (mg:Str->Option Value) (base:Heap) (k:Nat) (x:Str) (ps:List Str) (sp:Sp):Prop:=
 ∃ f fd,nI P w K mg base v8 k f fd ps sp /\ mg x=some (.ref f) /\ PySem.W.keepIn K (.ref f)=true /\ Binds K fd ps []
theorem Ho {k kk:Nat} {x:Str} {ps:List Str} {sp:Sp} {e:Expr} {es:List Expr} {t:TA} {p pos:Pos} (D:Dn X.prog X.w X.K X.mg X.base k x ps sp) (hr:dq kk X.A) (hk:k<=kk) (ha:PA X (e :: es) t) (hg:Gl X x:=by rfl)
  (oC:(x == ("__debug__":Str))=false:=by decide) (he:starEach (e :: es) X.env=(false,eval e X.env) :: starEach es X.env:=by rfl) (js:(backTo pos (starEach es X.env)).any (·.1)=false:=by rfl):
  PE X (.Call (.Name x p) (e :: es) [] pos) (lA sp [] E0 t):=by
 obtain ⟨f,fd,F,m,kp,b⟩:=D
 exact rO F (hr.mono hk) hg m kp b .nil LY ha oC he js
structure Bs (mg:Str->Option Value):Prop where
 len:mg "len"=none
 range:mg "range"=none
 isinstance:mg "isinstance"=none
 max:mg "max"=none
 min:mg "min"=none
 int:mg "int"=none
 bool:mg "bool"=none
 tuple:mg "tuple"=none
 list:mg "list"=none
 abs:mg "abs"=none
 str:mg "str"=none
 sum:mg "sum"=none
 sorted:mg "sorted"=none
 reversed:mg "reversed"=none
 enumerate:mg "enumerate"=none
 set:mg "set"=none
 all:mg "all"=none
 zip:mg "zip"=none
 any:mg "any"=none
def Df (K:PySem.W.Frag) (mg:Str->Option Value) (x:Str) (st:Stmt) (ps:List Str):Prop:=∃ f fd,ij K x x st f fd /\ mg x=some (.ref f) /\ Binds K fd ps []
theorem Df.ok {P:Program} {w:World} {K:PySem.W.Frag} {mg:Str->Option Value} {base:Heap} {x:Str} {st:Stmt} {N ps:List Str} {k:Nat} {sp:Sp} (F:Df K mg x st ps) (S:aD N ps (ao st)) (len:∀ vs H Q E,sp vs H Q E->vs.length=ps.length)
  (lB:∀ (f:Addr) (bR:Value) (A:Around) (outer:List Env) (s:Shared) (H:Hp) (vs:List V) (Q:VK) (E:XK),dq k (A.deeper (envOfC x (ao st) s.heap.objs.size f bR))->sp vs H Q E->
   ∃ t,ji (fZ v8 P w K mg base N x (ao st) f bR A outer s H E).G9 (cD st) t /\ t { nx:=fun _ H'=>Q .gU H',rt:=Q } (start N vs) H):Dn P w K mg base (k + 1) x ps sp:=by
 obtain ⟨f,fd,F,m,b⟩:=F
 exact ⟨f,fd,F.ok S len (lB f),m,F.kp,b⟩
def Cn (mg:Str->Option Value) (x:Str) (v:V):Prop:=∃ u,mg x=some u /\ RelV v u
theorem qV {x:Str} {v:V} {pos:Pos} (c:Cn X.mg x v) (hg:Gl X x:=by rfl) (hd:(x == ("__debug__":Str))=false:=by decide):PE X (.Name x pos) (tC v):=by
 obtain ⟨u,m,r⟩:=c
 exact ES hg m r hd
end
theorem bI {H:Hp} {p:Addr} (h:H p=none) (o:HO):az H (upd H p o):=fun b u q=>by rw [aI (bo q h)]; exact q
theorem small {n:Nat} (h:n<=100000):n<=sizeLine:=Nat.le_trans h (by decide)
theorem rZ {n:Nat} (h:n<=100000):n < sizeLine:=Nat.lt_of_le_of_lt h (by decide)
section
variable {X:Cx}
def Hq:V->List V->Hp->VK->Prop:=fun x vs H Q=>∃ i:Int,x=.int i /\ vs=[] /\ Q (.int (Builtin.Int.intBits i:Nat)) H
theorem Ff:NG X "int.bit_length" Hq:=by
 intro pins s σ H x vs v us Q I rx rv h
 obtain ⟨i,rfl,rfl,q⟩:=h
 obtain ⟨t,rfl⟩:=rx
 cases rv
 exact call_int_bit_length ⟨.int _,H,I.tok _,⟨_,rfl⟩,q⟩
theorem Fg {o:Expr} {to:TE} {apos cM:Pos} (ho:PE X o to) (oE:attributeBase o "bit_length" X.env (eval o X.env)=eval o X.env:=by rfl) (oF:(apos.endLine == cM.line)=true:=by rfl):
  PE X (.Call (.Attribute o "bit_length" apos) [] [] cM) (LQ X.K "int" Hq to):=IK PySem.F.plainAttrs_int PySem.F.slot_int_bit_length PySem.F.type_int_bit_length Ff ho oE oF
end
theorem az.upd {H H':Hp} {l:Addr} (s:az H H') (h:H l=none) (o:HO):az H (upd H' l o):=fun b u q=>by rw [aI (bo q h)]; exact s b u q
theorem IZ:bootBuiltins "int"=some (.type "int"):=by decide +kernel
theorem um:bootBuiltins "tuple"=some (.type "tuple"):=by decide +kernel
theorem yL:bootBuiltins "list"=some (.type "list"):=by decide +kernel
theorem du:bootBuiltins "len"=some (.builtin "len"):=by decide +kernel
theorem oK:bootBuiltins "abs"=some (.builtin "abs"):=by decide +kernel
theorem BZ:bootBuiltins "max"=some (.builtin "max"):=by decide +kernel
theorem Ja:bootBuiltins "min"=some (.builtin "min"):=by decide +kernel
theorem qp:bootBuiltins "isinstance"=some (.builtin "isinstance"):=by decide +kernel
section
variable {X:Cx}
end
section
variable {X:Cx}
end
section
variable {X:Cx}
theorem ky {scope:Scope} {env:Env} (h:∀ y∈scope.names,y.2=.free->∃ c,env.cells.lookup y.1=some c):
  ∃ cl:List (Str×Addr),closureFor scope env=pure cl /\ (∀ n c,cl.lookup n=some c->env.cells.lookup n=some c) /\ ∀ n,(n,NameKind.free)∈scope.names->∃ c,cl.lookup n=some c:=by
 have go:∀ (l:List (Str×NameKind)) (cs:List (Str×Addr)),(∀ y∈l,y.2=.free->∃ c,env.cells.lookup y.1=some c)->(∀ n c,cs.lookup n=some c->env.cells.lookup n=some c)->
   ∃ cl:List (Str×Addr),(forIn l cs fun x r=>(match x with | (name,kind)=>if (kind == NameKind.free)=true then (do let a <- cellOf env name; pure (ForInStep.yield ((name,a) :: r))) else pure (ForInStep.yield r):Sem (ForInStep (List (Str×Addr)))))=(pure cl:Sem _) /\
     (∀ n c,cl.lookup n=some c->env.cells.lookup n=some c) /\ (∀ n,(n,NameKind.free)∈l->∃ c,cl.lookup n=some c) /\ ∀ n c,cs.lookup n=some c->∃ c',cl.lookup n=some c':=by
  intro l
  induction l with
  | nil=>intro cs _ hc; exact ⟨cs,rfl,hc,fun n hn=>by simp at hn,fun n c e=>⟨c,e⟩⟩
  | cons y r ih=>
    intro cs hl hc
    obtain ⟨name,kind⟩:=y
    by_cases hk:kind=.free
    ·subst hk
     obtain ⟨c,e⟩:=hl (name,.free) List.mem_cons_self rfl
     have Ii:∀ n d,((name,c) :: cs).lookup n=some d->env.cells.lookup n=some d:=by
      intro n d q
      rw [List.lookup_cons] at q
      cases hb:n == name with
      | true=>rw [hb] at q; cases q; rw [eq_of_beq hb]; exact e
      | false=>rw [hb] at q; exact hc n d q
     obtain ⟨cl,h1,h2,h3,h4⟩:=ih ((name,c) :: cs) (fun y hy=>hl y (List.mem_cons_of_mem _ hy)) Ii
     refine ⟨cl,?_,h2,fun n hn=>?_,fun n d q=>?_⟩
     ·rw [List.forIn_cons]
      have ec:cellOf env name=pure c:=by unfold cellOf; rw [e]
      simp only [beq_self_eq_true,if_true,ec,pure_bind]
      exact h1
     ·rcases List.mem_cons.mp hn with z | z
      ·cases z
       exact h4 name c (by rw [List.lookup_cons]; simp)
      ·exact h3 n z
     ·by_cases hb:n == name
      ·exact h4 n c (by rw [List.lookup_cons,hb])
      ·exact h4 n d (by rw [List.lookup_cons]; simp only [hb]; exact q)
    ·obtain ⟨cl,h1,h2,h3,h4⟩:=ih cs (fun y hy=>hl y (List.mem_cons_of_mem _ hy)) hc
     refine ⟨cl,?_,h2,fun n hn=>?_,h4⟩
     ·rw [List.forIn_cons]
      have eb:(kind == NameKind.free)=false:=by simpa using hk
      simp only [eb,Bool.false_eq_true,if_false,pure_bind]
      exact h1
     ·rcases List.mem_cons.mp hn with z | z
      ·cases z; exact absurd rfl hk
      ·exact h3 n z
 obtain ⟨cl,h1,h2,h3,_⟩:=go scope.names [] h (fun n c e=>by simp at e)
 refine ⟨cl,?_,h2,h3⟩
 simp only [closureFor]
 rw [h1]
 rfl
def aQ (X:Cx) (scope:Scope) (N':List Str) (cl:List (Str×Addr)) (C:Addr) (s2:Shared) (H2:Hp) (fp:List Addr) (pins:List (Addr×Obj)):Cx:=
 { X with N:=N',eJ:=s2,Bu:=H2,env:=compEnvC scope cl C X.env,outer:=X.stack,stack:=X.stack,ex:=fp,fn:=fun _=>false,pn:=X.pn ++ pins,xe:=fun _ _=>False }
structure oM (X:Cx) (scope:Scope) (x:Str) (ix:List Nat) (N':List Str):Prop where
 kind:scope.kind=.function
 wG:∀ y∈scope.names,y.2≠.cell
 names:∀ y∈scope.names,y.2=.local->scope.names.lookup y.1=some .local
 own:scope.names.lookup x=some .local
 free:∀ y∈scope.names,y.2=.free->X.env.kindOf y.1=some .cell \/ X.env.kindOf y.1=some .free
 only:∀ n,(X.env.scope.kind=.function)->((relabel scope X.env).names.lookup n=some .cell \/ (relabel scope X.env).names.lookup n=some .free)->(n,NameKind.free)∈scope.names
 nm:N'=x :: ix.map fun j=>X.N.getD j ""
 OF:∀ j∈ix,j < X.N.length /\ (X.N.getD j "",NameKind.free)∈scope.names /\ ((relabel scope X.env).names.lookup (X.N.getD j "")=some .cell \/ (relabel scope X.env).names.lookup (X.N.getD j "")=some .free)
def gf (ix:List Nat) (σ:St):St:=ix.map fun j=>(σ[j]?).join
section
variable {scope:Scope} {x:Str} {ix:List Nat} {N':List Str} {cl:List (Str×Addr)} {C:Addr} {s2 s3:Shared} {H2:Hp} {fp:List Addr} {pins:List (Addr×Obj)} {σ:St}
theorem Fh (S:oM X scope x ix N') (I:Inv X pins σ H2 s2) (hC:s2.heap.objs.size<=C) (h1:∀ n c,cl.lookup n=some c->X.env.cells.lookup n=some c) (h2:∀ n,(n,NameKind.free)∈scope.names->∃ c,cl.lookup n=some c)
  (hf:∀ b∈fp,kr X pins H2 b) (qd:∀ b∈fp,b < s2.heap.objs.size):(aQ X scope N' cl C s2 H2 fp pins).Ok where
 mod:=I.ok.mod
 kind:=by show (relabel scope X.env).kind=_; exact S.kind
 glob:=I.ok.glob
 blt:=I.ok.blt
 above:=hC
 inj:=fun a b c e1 e2=>I.ok.inj a b c (h1 _ _ e1) (h1 _ _ e2)
 has:=fun a h=>h2 a (S.only a I.ok.kind h)
 Bv:=fun a c h=>by cases h
 hd:=I.ok.hd
 frames:=I.ok.frames
 EC:=.inl rfl
 G5:=fun b hb=>⟨Nat.ne_of_lt (Nat.lt_of_lt_of_le (qd b hb) hC),fun a c e=>(hf b hb).2.2.2.2.1 a c (h1 _ _ e)⟩
 bs:=I.bs
 we:=Nat.le_trans I.ok.we I.sz
 nH:=fun b o e hb=>by
  rcases (hf b hb).2.2.2.1 with z | z
  ·exact I.ok.nH b o e z
  ·have:=(I.ok.bs b o e).1
   exact absurd (Nat.lt_of_lt_of_le (Heap.lt_size this) z) (Nat.lt_irrefl _)
 qf:=fun b hb z=>by
  rcases List.mem_cons.mp (I.fQ b z) with e | e
  ·exact (hf b hb).2.1 e
  ·exact (hf b hb).2.2.1 e
 gW:=I.stack
 wg:=I.nQ
theorem uo {j:Nat} {v:V} (h:(gf ix σ)[j]?=some (some v)):∃ i,ix[j]?=some i /\ σ[i]?=some (some v):=by
 unfold gf at h
 rw [List.getElem?_map] at h
 cases e:ix[j]? with
 | none=>rw [e] at h; cases h
 | some i=>
   rw [e] at h
   have h':(σ[i]?).join=some v:=Option.some.inj h
   refine ⟨i,rfl,?_⟩
   cases q:σ[i]? with
   | none=>rw [q] at h'; cases h'
   | some w=>rw [q] at h'; rw [show w=some v from h']
theorem B0 (S:oM X scope x ix N') (I:Inv X pins σ H2 s2) (hC:s2.heap.objs.size<=C) (h1:∀ n c,cl.lookup n=some c->X.env.cells.lookup n=some c) (h2:∀ n,(n,NameKind.free)∈scope.names->∃ c,cl.lookup n=some c)
  (hf:∀ b∈fp,kr X pins H2 b) (qd:∀ b∈fp,b < s2.heap.objs.size) (L4:s3.os=s2.os) (hg:s3.gens=s2.gens) (k:∀ b o,s2.heap.get? b=some o->s3.heap.get? b=some o) {m:Str->Option Value} (hn:s3.heap.Ns C m):
  Inv (aQ X scope N' cl C s2 H2 fp pins) [] (none :: gf ix σ) H2 s3 where
 ok:=Fh S I hC h1 h2 hf qd
 os:=L4
 bare:=by rw [hg]; exact I.bare
 base:=⟨fun b o e _ _ _=>k b o e,fun b o e _ _ _=>⟨o.slots,k b o e⟩,fun b o e n _=>n,fun b o e _=>⟨o,k b o e⟩,fun _ _ e=>e,fun _ _ _ e=>e,fun b ps e=>⟨#[],by rw [Array.append_empty]; exact e⟩⟩
 loc:=by
  refine ⟨m,hn,fun i y v e1 e2 e3=>?_⟩
  cases i with
  | zero=>simp at e2
  | succ i=>
    have Bm:(gf ix σ)[i]?=some (some v):=by simpa using e2
    obtain ⟨j,ej,es⟩:=uo Bm
    have Ab:N'[i + 1]?=some y:=e1
    rw [S.nm,List.getElem?_cons_succ,List.getElem?_map,ej] at Ab
    have ey:X.N.getD j ""=y:=Option.some.inj Ab
    obtain ⟨hj,jV,hk⟩:=S.OF j (List.mem_of_getElem? ej)
    obtain ⟨m0,VX,L5⟩:=I.loc
    have eN:X.N[j]?=some y:=by rw [<- ey,List.getD_eq_getElem?_getD,List.getElem?_eq_getElem hj]; rfl
    have kd:=S.free _ jV rfl
    have hv:KI X.env.scope y:=by
     rw [<- ey]
     rcases kd with z | z
     ·exact .inr (.inl z)
     ·exact .inr (.inr z)
    obtain ⟨u,r,l⟩:=L5 j y v eN es hv
    refine ⟨u,r,.inr ?_⟩
    rcases l with ⟨q,_⟩ | ⟨_,c,ec,z⟩
    ·have OG:X.env.kindOf y=some .cell \/ X.env.kindOf y=some .free:=by rw [<- ey]; exact kd
     rcases OG with w | w <;> rw [q] at w <;> cases w
    ·obtain ⟨c',e'⟩:=h2 _ jV
     rw [ey] at e'
     have:=h1 _ _ e'
     rw [ec] at this; cases this
     obtain ⟨o,ho,hd⟩:=z
     exact ⟨by rw [<- ey]; exact hk,c,e',o,k c o ho,hd⟩
 cell:=fun a c e=>by
  obtain ⟨v,o,ho,hd⟩:=I.cell a c (h1 _ _ e)
  exact ⟨v,o,k c o ho,hd⟩
 free:=I.bE.fresh hC
 eA:=fun a c e=>I.eA a c (h1 _ _ e)
 pin:=fun p hp=>by
  have KQ:p∈X.pn ++ pins:=by
   rcases List.mem_append.mp hp with z | z
   ·exact z
   ·simp at z
  obtain ⟨e,n,ne,nf,d⟩:=I.pin p KQ
  refine ⟨k _ _ e,n,Nat.ne_of_lt (Nat.lt_of_lt_of_le (Heap.lt_size e) hC),fun z=>?_,d⟩
  rcases List.mem_cons.mp (I.fQ _ z) with q | q
  ·exact ne q
  ·exact nf q
 bE:=I.bE.kept k
 len:=by
  show (none :: gf ix σ).length=N'.length
  rw [S.nm]
  unfold gf
  simp
abbrev nK (its:List Value) (n:Nat):Obj:={ cls:=.type "list",data:=.seq its.toArray n }
theorem Inv.L6 {X:Cx} {pins:List (Addr×Obj)} {σ:St} {H:Hp} {s:Shared} {D:Addr} {ys:List V} {its:List Value} {n:Nat} (I:Inv X pins σ H s) (hD:H D=none) (hs:X.eJ.heap.objs.size<=D) (hl:D≠X.env.locals) (hc:∀ x c,X.env.cells.lookup x=some c->c≠D)
  (hp:∀ p∈X.pn ++ pins,p.1≠D) (e:s.heap.get? D=some (nK its n)) (r:bf ys its) (hz:ys.length<=sizeLine):Inv X pins σ (upd H D (.lst ys)) s:=by
 have h:=I.step (H':=upd H D (.lst ys)) (h':=s.heap) (g':=s.gens) (t':=s.toks) (d':=s.drawn) (ch:=[D]) (fun b hb=>by
   have e:b=D:=by simpa using hb
   subst e
   exact ⟨.inr hs,hl,hc,hp⟩)
  (fun b o _ _ _ q _=>q) (fun b o _ _ _ q _=>⟨o.slots,q⟩) (fun b o hb _ q=>by rw [aI (by simpa using hb)]; exact q) (fun b o _ q=>⟨o,q⟩)
  (fun b xs q=>by rw [aI (bo q hD)]; exact q) (fun b o u q=>by rw [aI (bo q hD)]; exact q) (fun b ps q=>⟨#[],by rw [aI (bo q hD),Array.append_empty]; exact q⟩) (fun m hm=>hm) (fun b u q=>?_) I.bare
 ·exact h
 ·by_cases hb:b=D
  ·subst hb
   rw [bw] at q; cases q
   exact ⟨hz,its,n,r,e⟩
  ·rw [aI hb] at q
   exact (I.bE b u q).nG (fun _ _ _ z=>z) (fun c z=>by rw [aI (bo z hD)]; exact z) fun c xs z=>z.new hD
theorem qW (I0:Inv X pins σ H2 s2) (hC:s2.heap.objs.size<=C) {D:Addr} (hD:s2.heap.objs.size<=D) (hf:∀ b∈fp,kr X pins H2 b) {bM:St} {H:Hp} {s1:Shared} {ys:List V} {its:List Value} {n:Nat} {more:List (Addr×Obj)}
  (I:Inv (aQ X scope N' cl C s2 H2 fp pins) ((D,nK its n) :: more) bM H s1) (r:bf ys its) (hz:ys.length<=sizeLine) {h':Heap} (hs:Heap.SameBut C s1.heap h') (wH:D≠C):
  Inv X pins σ (upd H D (.lst ys)) { s1 with heap:=h' }:=by
 have nC:∀ b o,s2.heap.get? b=some o->b≠C:=fun b o e=>Nat.ne_of_lt (Nat.lt_of_lt_of_le (Heap.lt_size e) hC)
 have B:Un (mi X.stack) fp H2 H s2.heap s1.heap:=I.base
 have fC:H C=none:=I.free
 have pD:=I.pin (D,nK its n) (List.mem_append_right _ List.mem_cons_self)
 have u:Un (mi X.stack) fp H2 H s2.heap h':=⟨fun b o e n hb hx=>(hs.2 b (nC b o e)).trans (B.keep b o e n hb hx),fun b o e n hb hx=>by
   obtain ⟨sl,q⟩:=B.slot b o e n hb hx
   exact ⟨sl,(hs.2 b (nC b o e)).trans q⟩,B.free,fun b o e hx=>by
   obtain ⟨o',q⟩:=B.there b o e hx
   exact ⟨o',(hs.2 b (nC b o e)).trans q⟩,B.mm,B.lu,B.mn⟩
 have bE:ka X.prog X.w H h':=fun b o e=>(I.bE b o e).nG (fun c v hc q=>(hs.2 c (by
   rintro rfl
   rcases hc with z | z
   ·subst z; rw [fC] at e; cases e
   ·rw [fC] at z; cases z)).trans q) (fun _ q=>q) fun _ _ q=>q
 have I1:Inv X pins σ H { s1 with heap:=h' }:=I0.Bw (s':={ s1 with heap:=h' }) (ch:=fp) I.os u bE I.bare fun b hb=>⟨(hf b hb).2.2.2.1,(hf b hb).2.1,(hf b hb).2.2.2.2.1,(hf b hb).2.2.2.2.2⟩
 refine I1.L6 (its:=its) (n:=n) pD.2.1 (Nat.le_trans I0.sz hD) (Nat.ne_of_gt (Nat.lt_of_lt_of_le I0.lt hD)) (fun a c e z=>?_) (fun p hp z=>?_) ((hs.2 D wH).trans pD.1) r hz
 ·obtain ⟨v,q⟩:=I0.cell a c e
  exact absurd (Nat.lt_of_lt_of_le q.lt (by rw [z]; exact hD)) (Nat.lt_irrefl _)
 ·exact absurd (Nat.lt_of_lt_of_le (Heap.lt_size (I0.pin p hp).1) (by rw [z]; exact hD)) (Nat.lt_irrefl _)
end
def wI (J:It) (ix:List Nat) (te:TE) (σ:St) (H:Hp) (Q:VK):Prop:=∃ W:Nat->Nat->List V->Hp->Prop,(∃ m,W 0 m [] H) /\ ∀ i m ys H,W i m ys H->ys.length<=sizeLine /\
 ((J.stop i H /\ ∀ p,H p=none->Q (.ref p) (upd H p (.lst ys))) \/ (J.go i H /\ ys.length < sizeLine /\ ∃ N:VK,(∀ y H2,N y H2->∃ m',m' < m /\ W (i + 1) m' (ys ++ [y]) H2) /\ ∀ v H',J.Ip i H v H'->te (some v :: gf ix σ) H' N))
def Hr (wi:TI) (ix:List Nat) (te:TE):TE:=fun σ H Q=>wi σ H fun J H1=>wI J ix te σ H1 Q
section
variable {scope:Scope} {x:Str} {ix:List Nat} {N':List Str} {elt iter:Expr} {px pos:Pos} {wi:TI} {te:TE}
theorem B1 (S:oM X scope x ix N') (hN:N'.Nodup) (hc:X.calm=true) (iS:∀ cl C s2 H2 fp pins,PE (aQ X scope N' cl C s2 H2 fp pins) elt te)
  {pins:List (Addr×Obj)} {σ:St} {s2:Shared} {Q:VK} {zS:Value} (h:Ux X pins σ (.Name x px) (fun J H1=>wI J ix te σ H1 Q) zS s2) {cl:List (Str×Addr)} (h1:∀ n c,cl.lookup n=some c->X.env.cells.lookup n=some c) (h2:∀ n,(n,NameKind.free)∈scope.names->∃ c,cl.lookup n=some c)
  {use:Option (Value->Sem Unit)} {QQ:Value->Shared->Prop}
  (fin:∀ (D C:Addr) (H':Hp) (s1:Shared) (m:Str->Option Value),s1.heap.Ns C m->H' C=none->X.eJ.heap.objs.size<=C->C≠X.env.locals->(∀ a c,X.env.cells.lookup a=some c->c≠C)->(∀ p∈X.pn ++ pins,p.1≠C)->(∀ h',Heap.SameBut C s1.heap h'->Inv X pins σ H' { s1 with heap:=h' })->Q (.ref D) H'->
   compPost (model X.prog X.w) X.A X.xe use QQ (.ref D) C (.ok .next) s1):
  wpAny (model X.prog X.w) X.A (newList []) (fun acc iR=>wpAny (model X.prog X.w) X.A (newFunctionEnv scope X.env.globals cl [] X.env.qual none .none (some X.env)) (fun uq r6=>
   codeAny (model X.prog X.w) X.A (.compStart (.ListComp elt [⟨.Name x px,iter,[],0⟩] scope pos) 0 zS acc { uq with scope:=relabel scope X.env }) (compPost (model X.prog X.w) X.A X.xe use QQ acc uq.locals) r6) X.xe iR) X.xe s2:=by
 obtain ⟨it,fp,tn,J,H1,rfl,I2,T,gz,f2,W,⟨m0,w0⟩,turn⟩:=h
 have qd:∀ b∈fp,b < s2.heap.objs.size:=fun b hb=>by
  obtain ⟨o,e,_⟩:=T.obj _ _ gz b hb
  exact Heap.lt_size e
 refine wpAny_newObj_type (wpAny_newFunctionEnv S.wG (by intro y hy; simp at hy) (fun iz kz iT=>?_) S.kind)
 dsimp only at kz iT ⊢
 generalize Fi:s2.heap.push { cls:=.type "list",dict:=none,data:=.seq ([]:List Value).toArray }=P2 at kz iT ⊢
 have hC:P2.objs.size=s2.heap.objs.size + 1:=by rw [<- Fi,Heap.size_push]
 have wH:s2.heap.objs.size≠P2.objs.size:=by rw [hC]; exact Nat.ne_of_lt (Nat.lt_succ_self _)
 have kA:s2.heap.objs.size<=P2.objs.size:=by rw [hC]; exact Nat.le_succ _
 have below:∀ b,b < s2.heap.objs.size->b≠P2.objs.size:=fun b hb=>by rw [hC]; exact Nat.ne_of_lt (Nat.lt_succ_of_lt hb)
 have old:∀ b o,s2.heap.get? b=some o->iz.get? b=some o:=fun b o e=>iT.extBut b o (below b (Heap.lt_size e)) (Heap.get?_push_of_some _ (Fi ▸ Heap.get?_push_of_some _ e))
 have qq:iz.get? s2.heap.objs.size=some (nK [] 0):=iT.extBut _ _ wH (Heap.get?_push_of_some _ (Fi ▸ Heap.get?_push_size _ rfl))
 generalize P2.objs.size=C at *
 generalize oN:s2.heap.objs.size=D at *
 have L7:∀ p∈X.pn ++ pins,p.1≠D /\ p.1≠C:=fun p hp=>by
  have:=Heap.lt_size (I2.pin p hp).1
  rw [oN] at this
  exact ⟨Nat.ne_of_lt this,Nat.ne_of_lt (Nat.lt_of_lt_of_le this kA)⟩
 have Jb:D∉fp:=fun hb=>Nat.lt_irrefl _ (qd D hb)
 have OH:C∉fp:=fun hb=>absurd (Nat.lt_of_lt_of_le (qd C hb) kA) (Nat.lt_irrefl _)
 have ur:∀ a c,X.env.cells.lookup a=some c->c≠D /\ c≠C:=fun a c e=>by
  obtain ⟨v,q⟩:=I2.cell a c e
  have:=q.lt
  rw [oN] at this
  exact ⟨Nat.ne_of_lt this,Nat.ne_of_lt (Nat.lt_of_lt_of_le this kA)⟩
 have B2:X.env.locals < D:=by have:=I2.lt; rw [oN] at this; exact this
 have OI:X.eJ.heap.objs.size<=D:=by rw [<- oN]; exact I2.sz
 have I3:=B0 (s3:={ s2 with heap:=iz,toks:=s2.toks + ([]:List (Str×Value)).length }) S I2 (by rw [oN]; exact kA) h1 h2 f2 (by rw [oN]; exact qd) rfl rfl old kz
 have oy:∀ {H':Hp} {pp:List (Addr×Obj)},(∀ p∈pp,p.1∉fp)->(∀ b∈fp,H' b=none)->∀ b∈fp,kr (aQ X scope N' cl C s2 H1 fp pins) pp H' b:=fun {H' pp} B3 hn b hb=>by
  obtain ⟨f0,f1,f3,f4,f5,f6⟩:=f2 b hb
  refine ⟨hn b hb,fun z=>OH (by rw [<- show b=C from z]; exact hb),fun z=>?_,.inl hb,fun a c e=>f5 a c (h1 _ _ e),fun p hp=>?_⟩
  ·rcases List.mem_cons.mp (I2.fQ b z) with q | q
   ·exact f1 q
   ·exact f3 q
  ·rcases List.mem_append.mp hp with q | q
   ·exact f6 p q
   ·intro z; exact B3 p q (by rw [z]; exact hb)
 have L8:∀ b,D<=b->b∉mi X.stack:=fun b hb z=>by
  rcases List.mem_cons.mp (I2.fQ b z) with q | q
  ·rw [q] at hb; exact absurd (Nat.lt_of_lt_of_le B2 hb) (Nat.lt_irrefl _)
  ·exact I2.Ih (by rw [oN]; exact hb) q
 have loop:∀ iR:Shared,iR={ s2 with heap:=iz,toks:=s2.toks + ([]:List (Str×Value)).length }->
   codeAny (model X.prog X.w) X.A (.compLoop (.ListComp elt [⟨.Name x px,iter,[],0⟩] scope pos) 0 (.ref it) (.ref D) (compEnvC scope cl C X.env)) (compPost (model X.prog X.w) X.A X.xe use QQ (.ref D) C) iR:=by
  rintro iR rfl
  refine codeAny_compLoop_tests (fun n s'=>∃ (i:Nat) (ys:List V) (its:List Value) (k:Nat) (bM:Option V) (H':Hp),Inv (aQ X scope N' cl C s2 H1 fp pins) [(D,nK its k)] (bM :: gf ix σ) H' s' /\ tn i s'.heap /\ (∀ b∈fp,H' b=none) /\ W i n ys H' /\ bf ys its) ?_ m0
   ⟨0,[],[],0,none,H1,?_,T.keep _ _ _ gz (fun b hb o e=>old b o e),fun b hb=>(f2 b hb).1,w0,.nil⟩ (by intro _; rfl)
  ·rintro n s' ⟨i,ys,its,k,bM,H',I,st,fr,w,rv⟩
   obtain ⟨hz,w⟩:=turn i n ys H' w
   have pD:=I.pin (D,nK its k) (List.mem_append_right _ List.mem_cons_self)
   have B3:∀ p∈[(D,nK its k)],p.1∉fp:=fun p hp=>by
    have e:p=(D,nK its k):=by simpa using hp
    rw [e]; exact Jb
   rcases w with ⟨stop,q⟩ | ⟨go,VY,N,VZ,step⟩
   ·refine wpAny_mono (T.done (aQ X scope N' cl C s2 H1 fp pins) rfl rfl rfl hc i _ s' _ H' (fun _ _=>False) I (oy B3 fr) st stop) (fun r s1 hr=>?_) fun _ _ z=>z.elim
    obtain ⟨rfl,I1⟩:=hr
    obtain ⟨m,hn,_⟩:=I1.loc
    have p1:=I1.pin (D,nK its k) (List.mem_append_right _ List.mem_cons_self)
    have fC:H' C=none:=I1.free
    refine fin D C (upd H' D (.lst ys)) s1 m hn (by rw [aI (Ne.symm wH)]; exact fC) (Nat.le_trans OI kA) (Nat.ne_of_gt (Nat.lt_of_lt_of_le B2 kA)) (fun a c e=>(ur a c e).2) (fun p hp=>(L7 p hp).2) (fun h' hs=>?_) (q D p1.2.1)
    exact qW (N':=N') I2 (by rw [oN]; exact kA) (by rw [oN]; exact Nat.le_refl _) f2 I1 rv hz hs wH
   ·refine wpAny_mono (T.item (aQ X scope N' cl C s2 H1 fp pins) rfl rfl rfl hc i _ s' _ H' (fun _ _=>False) I (oy B3 fr) st go) (fun r s4 hr=>?_) fun _ _ z=>z.elim
    obtain ⟨u,rfl,h4⟩:=hr
    have key:wpAny (model X.prog X.w) X.A (letOwnedTupleGo (.Name x px) (.ref it) u >>= fun _=>assign (.Name x px) (compEnvC scope cl C X.env) u) (fun _ s6=>∃ (v:V) (H5:Hp) (h5:Heap),J.Ip i H' v H5 /\ tn (i + 1) h5 /\ (∀ b∈fp,H5 b=none) /\
      Inv (aQ X scope N' cl C s2 H1 fp pins) ([(D,nK its k)] ++ ie fp h5) (some v :: gf ix σ) H5 s6) (notedBy (model X.prog X.w) X.A (compEnvC scope cl C X.env) fun e s'=>compPost (model X.prog X.w) X.A X.xe use QQ (.ref D) C (.error e) s') s4:=by
     refine wpAny_bind (wpAny_mono h4 (fun _ s5 h5=>?_) fun _ _ z=>z.elim)
     obtain ⟨v,H5,I5,r5,y5,wq,Iq⟩:=h5
     have LA:=I5.pinned (oy B3 Iq) (T.obj _ _ wq)
     refine wpAny_assign_Name (lx (X:=aQ X scope N' cl C s2 H1 fp pins) (i:=0) LA hN (by show N'[0]?=some x; rw [S.nm]; rfl) (.inl (lookup_relabel_local S.own)) r5 (fun s6 I6=>?_) (.inr (lookup_relabel_local S.own)))
     exact ⟨v,H5,s5.heap,y5,wq,Iq,I6⟩
    refine wpAny_mono (show wpAny (model X.prog X.w) X.A (assign (.Name x px) (compEnvC scope cl C X.env) u) _ _ s4 from key) (fun _ s6 h6=>?_) fun _ _ z=>z
    obtain ⟨v,H5,h5,y5,wq,Iq,I6⟩:=h6
    refine wpAny_pure ?_
    rw [if_pos rfl]
    refine wpAny_mono (iS cl C s2 H1 fp pins _ s6 _ H5 _ I6 (step v H5 y5)) (fun y s7 h7=>?_) fun _ _ z=>z.elim
    obtain ⟨yv,H7,I7,r7,n7⟩:=h7
    obtain ⟨m',L9,w7⟩:=VZ yv H7 n7
    have p7:=I7.pin (D,nK its k) (List.mem_append_right _ (List.mem_append_left _ List.mem_cons_self))
    have hl:=rv.length
    refine call_meets F.slot_list_append ⟨_,p7.1,rfl⟩ F.entry_list_append (F.args_list_append_2 _ _) (PySem.list_append D its.toArray k y (by rw [List.size_toArray]; omega)) ⟨p7.1,?_⟩
    have q:=PySem.IsL.update p7.1 (·.push y)
    have uu:∀ b o,b≠D->s7.heap.get? b=some o->(s7.heap.update D (Obj.mapSeq (·.push y))).get? b=some o:=fun b o hb e=>(Heap.get?_update_other s7.heap _ (Ne.symm hb)).trans e
    have I8:Inv (aQ X scope N' cl C s2 H1 fp pins) (ie fp h5) (some v :: gf ix σ) H7 s7:=I7.fX fun p hp=>I7.pin p (List.mem_append_right _ (List.mem_append_right _ hp))
    have I9:Inv (aQ X scope N' cl C s2 H1 fp pins) (ie fp h5) (some v :: gf ix σ) H7 { s7 with heap:=s7.heap.update D (Obj.mapSeq (·.push y)) }:=I8.turned (t':=s7.toks) (it:=D) uu p7.2.1 wH (.inr (by show s2.heap.objs.size<=D; rw [oN]; exact Nat.le_refl _)) (fun a c e=>(ur a c (h1 _ _ e)).1) fun p hp z=>by
     rcases List.mem_append.mp hp with z' | z'
     ·exact (L7 p z').1 z
     ·exact Jb (by rw [<- z]; exact (mw z').1)
    refine ⟨m',L9,i + 1,ys ++ [yv],its ++ [y],(if (its.toArray.push y).size == its.toArray.size then k else k + 1),some v,H7,I9.fX (pins':=[(D,nK (its ++ [y]) ((if (its.toArray.push y).size == its.toArray.size then k else k + 1)))]) fun p hp=>?_,T.keep _ _ _ wq fun b hb o e=>?_,fun b hb=>?_,w7,rv.append (.cons r7 .nil)⟩
    ·have e:p=(D,nK (its ++ [y]) ((if (its.toArray.push y).size == its.toArray.size then k else k + 1))):=by simpa using hp
     subst e
     refine ⟨by rw [q,List.push_toArray],p7.2.1,wH,L8 D (Nat.le_refl _),fun v z=>by cases z⟩
    ·have pb:=I7.pin (b,o) (List.mem_append_right _ (List.mem_append_right _ (dn hb e)))
     exact uu b o (fun z=>Jb (by rw [<- z]; exact hb)) pb.1
    ·obtain ⟨o,e,d⟩:=T.obj _ _ wq b hb
     exact (I7.pin (b,o) (List.mem_append_right _ (List.mem_append_right _ (dn hb e)))).2.1
  ·exact I3.fX fun p hp=>by
    have e:p=(D,nK [] 0):=by simpa using hp
    subst e
    exact ⟨qq,I2.bE.fresh (by rw [oN]; exact Nat.le_refl _),wH,L8 D (Nat.le_refl _),fun v z=>by cases z⟩
 exact codeAny_compStart_list (loop _ rfl) (T.self _ 0 _ _ _ (T.keep _ _ _ gz fun b hb o e=>old b o e) (loop _ rfl))
theorem B4 (S:oM X scope x ix N') (hN:N'.Nodup) (hc:X.calm=true) (hi:PI X (.Name x px) iter wi) (iS:∀ cl C s2 H2 fp pins,PE (aQ X scope N' cl C s2 H2 fp pins) elt te)
  (hs:∀ x,foldedSetIterable iter X.env x=pure x):PE X (.ListComp elt [⟨.Name x px,iter,[],0⟩] scope pos) (Hr wi ix te):=by
 intro pins s σ H Q I h
 obtain ⟨cl,mz,h1,h2⟩:=ky (scope:=scope) (env:=X.env) (fun y hy hk=>I.ok.has y.1 (S.free y hy hk))
 rw [eval_ListComp]
 refine wpAny_comprehension_free (use:=none) rfl hs mz S.kind S.names (wpAny_mono (hi pins s σ H _ I h) (fun xv bu iz=>wpAny_mono iz (fun it kc oJ=>?_) fun _ _ e=>e) fun _ _ e=>e)
 exact B1 S hN hc iS oJ h1 h2 fun D C H' s1 m hn fC c1 c2 c3 c4 hI q=>⟨m,hn,fun h' lE=>⟨.ref D,H',hI h' lE,rfl,q⟩⟩
end
def uv (sc scope:Scope):List (Str×NameKind):=scope.names.map fun (n,k)=>if (k == .free && sc.kind == .function && sc.names.lookup n == some .cell) then (n,.cell) else (n,k)
def nT (sc scope:Scope) (N:List Str) (x:Str) (ix:List Nat) (N':List Str):Bool:=
 (scope.kind == .function) && scope.names.all (fun y=> !(y.2 == .cell)) && scope.names.all (fun y=> !(y.2 == .local) || (scope.names.lookup y.1 == some .local)) && (scope.names.lookup x == some .local)
 && scope.names.all (fun y=> !(y.2 == .free) || (sc.names.lookup y.1 == some .cell || sc.names.lookup y.1 == some .free))
 && (uv sc scope).all (fun y=> !(y.2 == .cell || y.2 == .free) || scope.names.any (fun z=>z.1 == y.1 && z.2 == .free))
 && (N' == x :: ix.map fun j=>N.getD j "") && ix.all (fun j=>decide (j < N.length) && scope.names.any (fun z=>z.1 == N.getD j "" && z.2 == .free) && ((uv sc scope).lookup (N.getD j "") == some .cell || (uv sc scope).lookup (N.getD j "") == some .free))
theorem lookup_mem {n:Str} {k:NameKind}:∀ {l:List (Str×NameKind)},l.lookup n=some k->(n,k)∈l
 | [],h=>by simp at h
 | (a,b) :: r,h=>by
   rw [List.lookup_cons] at h
   cases e:n == a with
   | true=>rw [e] at h; cases h; rw [eq_of_beq e]; exact List.mem_cons_self
   | false=>rw [e] at h; exact List.mem_cons_of_mem _ (lookup_mem h)
theorem Ac {sc scope:Scope} {N:List Str} {x:Str} {ix:List Nat} {N':List Str} (h:nT sc scope N x ix N'=true) (e1:X.env.scope=sc) (e2:X.N=N):oM X scope x ix N':=by
 subst e1 e2
 unfold nT at h
 simp only [Bool.and_eq_true,List.all_eq_true,Bool.or_eq_true,Bool.not_eq_true',List.any_eq_true,decide_eq_true_eq,beq_iff_eq,beq_eq_false_iff_ne] at h
 obtain ⟨⟨⟨⟨⟨⟨⟨a1,a2⟩,a3⟩,a4⟩,a5⟩,a6⟩,a7⟩,a8⟩:=h
 refine ⟨a1,a2,fun y hy hk=>(a3 y hy).elim (fun z=>absurd hk z) id,a4,fun y hy hk=>(a5 y hy).elim (fun z=>absurd hk z) id,fun n _ hn=>?_,a7,fun j hj=>?_⟩
 ·have:∃ k,(n,k)∈uv X.env.scope scope /\ (k=NameKind.cell \/ k=NameKind.free):=by
   rcases hn with z | z
   ·exact ⟨_,lookup_mem z,.inl rfl⟩
   ·exact ⟨_,lookup_mem z,.inr rfl⟩
  obtain ⟨k,hk,yM⟩:=this
  rcases a6 (n,k) hk with z | ⟨z,hz,e1,e2⟩
  ·exfalso
   simp at z
   rcases yM with q | q
   ·exact z.1 q
   ·exact z.2 q
  ·obtain ⟨z1,z2⟩:=z
   cases e1; cases e2; exact hz
 ·obtain ⟨⟨b1,⟨z,hz,e1,e2⟩⟩,b3⟩:=a8 j hj
  refine ⟨b1,?_,b3⟩
  obtain ⟨z1,z2⟩:=z
  cases e2
  have Ab:z1=X.N.getD j "":=e1
  rw [<- Ab]; exact hz
section
variable {scope:Scope} {x:Str} {elt iter:Expr} {px pos:Pos} {wi:TI} {te:TE}
theorem Fj (sc:Scope) (N:List Str) (ix:List Nat) (N':List Str) (hi:PI X (.Name x px) iter wi) (iS:∀ cl C s2 H2 fp pins,PE (aQ X scope N' cl C s2 H2 fp pins) elt te) (hk:nT sc scope N x ix N'=true:=by decide +kernel) (hN:N'.Nodup:=by decide +kernel)
  (e1:X.env.scope=sc:=by rfl) (e2:X.N=N:=by rfl) (hc:X.calm=true:=by rfl) (hs:∀ x,foldedSetIterable iter X.env x=pure x:=by intro _; rfl):PE X (.ListComp elt [⟨.Name x px,iter,[],0⟩] scope pos) (Hr wi ix te):=
 B4 (Ac hk e1 e2) hN hc hi iS hs
end
end
section
variable {X:Cx} {pins:List (Addr×Obj)} {σ:St} {H:Hp} {s:Shared}
end
section
variable {X:Cx}
end
abbrev Ad:=Int×Int
def dF (q:Ad):PyData:=.tuple [.int q.1,.int q.2]
abbrev D:=PyData
abbrev DS:=List (Option D)
def bY:List (Addr×List V):=[(298,[.int (0),.int (1)])]
theorem az.lF {H H':Hp} {a:Addr} {xs:List V} (s:az H H') (h:cx H a xs):cx H' a xs:=by
 rcases h with h | ⟨ob,h⟩
 ·exact .inl (s _ _ h)
 ·exact .inr ⟨ob,s _ _ h⟩
def wo (H:Hp) (A:List Addr):Hp:=fun a=>if a∈A then none else H a
section
variable {K:PySem.W.Frag} {H H':Hp} {A A':List Addr} {a l p r:Addr} {o:HO}
theorem bp (h:a∉A):wo H A a=H a:=by unfold wo; rw [if_neg h]
theorem jw (h:a∈A):wo H A a=none:=by unfold wo; rw [if_pos h]
theorem gZ (h:wo H A a=some o):a∉A /\ H a=some o:=by
 unfold wo at h
 split at h
 ·cases h
 ·exact ⟨by assumption,h⟩
theorem bH:az (wo H A) H:=fun _ _ h=>(gZ h).2
theorem cq (s:az H H'):az (wo H A) (wo H' A):=fun b u h=>by
 obtain ⟨h1,h2⟩:=gZ h
 rw [bp h1]; exact s b u h2
theorem fR (h:∀ a∈A',a∈A):az (wo H A) (wo H A'):=fun b u q=>by
 obtain ⟨h1,h2⟩:=gZ q
 rw [bp fun z=>h1 (h b z)]; exact h2
theorem B5:wo H []=H:=by funext a; exact bp (by simp)
theorem B6 (h:p∉A):wo (upd H p o) A=upd (wo H A) p o:=by
 funext a
 by_cases e:a=p
 ·subst e; rw [bp h,bw,bw]
 ·rw [aI e]
  by_cases z:a∈A
  ·rw [jw z,jw z]
  ·rw [bp z,bp z,aI e]
theorem wJ (h:l∈A):wo (upd H l o) A=wo H A:=by
 funext a
 by_cases z:a∈A
 ·rw [jw z,jw z]
 ·rw [bp z,bp z,aI]
  intro e; subst e; exact z h
theorem uw (h:H r=none):wo (upd H r o) (r :: A)=wo H A:=by
 funext a
 by_cases e:a=r
 ·subst e
  rw [jw (by simp)]
  by_cases z:a∈A
  ·rw [jw z]
  ·rw [bp z,h]
 ·by_cases z:a∈A
  ·rw [jw (by simp [z]),jw z]
  ·rw [bp (by simp [e,z]),bp z,aI e]
theorem yN (s:az H H') (h:H r=none):az (wo H A) (wo H' (r :: A)):=fun b u q=>by
 obtain ⟨h1,h2⟩:=gZ q
 rw [bp (by simp only [List.mem_cons,not_or]; exact ⟨bo h2 h,h1⟩)]
 exact s b u h2
def Fk:HO->Prop
 | .lst _=>True
 | .dT _=>True
 | _=>False
def Ls (A:List Addr) (H:Hp):Prop:=(∀ a∈A,∃ o,H a=some o /\ Fk o) /\ ∀ p xs,(p,xs)∈bY->cx H p xs
theorem Ls.same (h:Ls A H) (s:az H H'):Ls A H':=⟨fun a ha=>let ⟨o,e,q⟩:=h.1 a ha; ⟨o,s _ _ e,q⟩,fun p xs m=>s.lF (h.2 p xs m)⟩
theorem cx.apart {xs:List V} (t:cx H p xs) (e:H l=some o) (w:Fk o):p≠l:=fun z=>by
 subst z
 rcases t with t | ⟨ob,t⟩ <;> rw [e] at t <;> cases t <;> exact w
theorem cx.wo {xs:List V} (t:cx H p xs) (n:p∉A):cx (L2.wo H A) p xs:=by
 rcases t with t | ⟨ob,t⟩
 ·exact .inl (by rw [bp n]; exact t)
 ·exact .inr ⟨ob,by rw [bp n]; exact t⟩
theorem Ls.free (h:Ls A H) (n:H p=none):p∉A:=fun z=>by
 obtain ⟨ys,e,_⟩:=h.1 p z
 rw [n] at e; cases e
end
def cb (h:Heap) (e:Addr):Prop:=∃ o fs,h.get? e=some o /\ o.data=.fields fs /\ fs[2]?=some Value.none
def Jc (a C:Addr):HO:=.ext fun h=>(∃ o,h.get? a=some o /\ o.cls=.ref C) /\ cb h a
def fJ:Key->D:=Sum.elim .int .str
mutual
inductive HD (K:PySem.W.Frag) (H:Hp):V->D->Prop
 | gU:HD K H .gU .none
 | bl (b:Bool):HD K H (.bl b) (.bool b)
 | int (i:Int):HD K H (.int i) (.int i)
 | str (x:Str):HD K H (.str x) (.str x)
 | lst {a:Addr} {xs:List V} {ds:List D}:v7 K H a xs->cy K H xs ds->HD K H (.ref a) (.list ds)
 | tup {a:Addr} {xs:List V} {ds:List D}:cx H a xs->cy K H xs ds->HD K H (.ref a) (.tuple ds)
 | mj {a:Addr} {aK:List (List Key×V)} {kds:List (D×D)}:H a=some (.dT aK)->kds.map (·.1)=aK.map (fun p=>PyData.tuple (p.1.map fJ))->cy K H (aK.map (·.2)) (kds.map (·.2))->HD K H (.ref a) (.dict kds)
 | exc {a C:Addr} {c:Str}:PySem.W.nsIn K mainGlobals c=some (some (.ref C))->H a=some (Jc a C)->HD K H (.ref a) (.dict [(.list [],.tuple [.int (a:Nat),.str c])])
inductive cy (K:PySem.W.Frag) (H:Hp):List V->List D->Prop
 | nil:cy K H [] []
 | cons {x:V} {xs:List V} {d:D} {ds:List D}:HD K H x d->cy K H xs ds->cy K H (x :: xs) (d :: ds)
end
theorem az.rd {H H':Hp} {a:Addr} {u:HO} (s:az H H') (h:Rd H a u):Rd H' a u:=by
 rcases h with h | ⟨o,h⟩
 ·exact .inl (s _ _ h)
 ·exact .inr ⟨o,s _ _ h⟩
theorem v7.of {K:PySem.W.Frag} {H:Hp} {a:Addr} {xs:List V} (h:H a=some (.lst xs)):v7 K H a xs:=.inl (.inl h)
theorem v7.sq {K:PySem.W.Frag} {H:Hp} {a:Addr} {xs:List V} (h:v7 K H a xs):fY K H a xs:=by
 rcases h with h | ⟨its,n,h1,h2,h3⟩
 ·exact .inl h
 ·exact .inr ⟨_,its.toArray,n,h1,rfl,rfl,rfl,by rw [List.size_toArray]; exact h2,by simpa using h3⟩
theorem v7.same {K:PySem.W.Frag} {H H':Hp} {a:Addr} {xs:List V} (s:az H H') (h:v7 K H a xs):v7 K H' a xs:=by
 rcases h with h | h
 ·exact .inl (s.rd h)
 ·exact .inr h
theorem Inv.UJ {X:Cx} {pins:List (Addr×Obj)} {σ:St} {H:Hp} {s:Shared} {a:Addr} {xs:List V} (I:Inv X pins σ H s) (h:v7 X.K H a xs):xs.length<=sizeLine /\ ∃ (its:List Value) (n:Nat),bf xs its /\ s.heap.get? a=some { cls:=.type "list",data:=.seq its.toArray n }:=by
 rcases h with h | ⟨its,n,h1,h2,h3⟩
 ·exact h.ok I.bE
 ·exact ⟨by rw [h3.length]; exact h2,its,n,h3,I.v5 a _ h1⟩
theorem HD.same {K:PySem.W.Frag} {H H':Hp} (e:az H H') {x:V} {d:D} (h:HD K H x d):HD K H' x d:=
 HD.rec (motive_1:=fun x d _=>HD K H' x d) (motive_2:=fun x d _=>cy K H' x d) .gU .bl .int .str (fun hq _ i=>.lst (hq.same e) i) (fun hq _ i=>.tup (e.lF hq) i) (fun hq k _ i=>.mj (e _ _ hq) k i) (fun k h=>.exc k (e _ _ h)) .nil (fun _ _ i j=>.cons i j) h
theorem cy.same {K:PySem.W.Frag} {H H':Hp} (e:az H H') {x:List V} {d:List D} (h:cy K H x d):cy K H' x d:=
 cy.rec (motive_1:=fun x d _=>HD K H' x d) (motive_2:=fun x d _=>cy K H' x d) .gU .bl .int .str (fun hq _ i=>.lst (hq.same e) i) (fun hq _ i=>.tup (e.lF hq) i) (fun hq k _ i=>.mj (e _ _ hq) k i) (fun k h=>.exc k (e _ _ h)) .nil (fun _ _ i j=>.cons i j) h
section
variable {X:Cx} {pins:List (Addr×Obj)} {σ:St} {H:Hp} {s:Shared}
theorem cR {d:D} (h:SeqAt.shaped d=true):d.canLay0=true:=by
 unfold SeqAt.shaped at h
 rw [Bool.and_eq_true] at h
 exact h.1
theorem Jd (I:Inv X pins σ H s) {a:Addr} {xs:List V} {ds:List D} {u:Value} (hq:v7 X.K H a xs) (r:RelV (.ref a) u) (h:∀ {us},bf xs us->∃ as,ReadsAll s.heap us ds as):∃ as,Reads s.heap u (.list ds) as:=by
 cases (show u=Value.ref a from r)
 obtain ⟨its,rv,⟨o,n,h1,h2,_,h3⟩,_⟩:=I.list hq.sq
 obtain ⟨as,q⟩:=h rv
 exact ⟨_,.list h1 h2 h3 (by simpa using q)⟩
theorem Je (I:Inv X pins σ H s) {a:Addr} {xs:List V} {ds:List D} {u:Value} (hq:cx H a xs) (r:RelV (.ref a) u) (h:∀ {us},bf xs us->∃ as,ReadsAll s.heap us ds as):∃ as,Reads s.heap u (.tuple ds) as:=by
 cases (show u=Value.ref a from r)
 obtain ⟨its,rv,⟨o,h1,h2,n,h3⟩,_⟩:=I.tuple (.inl hq)
 obtain ⟨as,q⟩:=h rv
 exact ⟨_,.tuple h1 h2 h3 (by simpa using q)⟩
theorem HD.reads (I:Inv X pins σ H s) {x:V} {d:D} (h:HD X.K H x d):∀ {u:Value},RelV x u->PyData.canLay0 d=true->∃ as,Reads s.heap u d as:=
 HD.rec (motive_1:=fun x d _=>∀ {u},RelV x u->d.canLay0=true->∃ as,Reads s.heap u d as) (motive_2:=fun x d _=>∀ {u},bf x u->PyData.canLayAll0 d=true->∃ as,ReadsAll s.heap u d as)
  (fun {u} r _=>by cases (show u=Value.none from r); exact ⟨_,.none⟩) (fun b {u} r _=>by cases (show u=Value.bool b from r); exact ⟨_,.bool b⟩) (fun i {u} r _=>by obtain ⟨t,rfl⟩:=r; exact ⟨_,.int i t⟩) (fun i {u} r _=>by obtain ⟨t,rfl⟩:=r; exact ⟨_,.str i t⟩)
  (fun {_ _ _} hq _ i {_} r c=>Jd I hq r fun rv=>i rv (by rw [PyData.canLay0] at c; exact c)) (fun {_ _ _} hq _ i {_} r c=>Je I hq r fun rv=>i rv (by rw [PyData.canLay0] at c; exact c)) (fun {_ _ _} _ _ _ _ {_} _ c=>by rw [PyData.canLay0] at c; cases c) (fun {_ _ _} _ _ {_} _ c=>by rw [PyData.canLay0] at c; cases c)
  (fun {_} r _=>by cases r; exact ⟨_,.nil⟩) (fun {_ _ _ _} _ _ i j {_} r c=>by
   rw [PyData.canLayAll0,Bool.and_eq_true] at c
   cases r with
   | cons r rs=>
     obtain ⟨as,q⟩:=i r c.1
     obtain ⟨bs,qs⟩:=j rs c.2
     exact ⟨_,.cons q qs⟩) h
end
theorem cy.len {K:PySem.W.Frag} {H:Hp}:∀ {xs:List V} {ds:List D},cy K H xs ds->xs.length=ds.length
 | _,_,.nil=>rfl
 | _,_,.cons _ t=>by rw [List.length_cons,List.length_cons,cy.len t]
theorem cy.get {K:PySem.W.Frag} {H:Hp}:∀ {xs:List V} {ds:List D} {i:Nat} {d:D},cy K H xs ds->ds[i]?=some d->∃ x,xs[i]?=some x /\ HD K H x d
 | _,_,_,_,.nil,e=>by simp at e
 | _,_,0,_,.cons r _,e=>by simp at e; subst e; exact ⟨_,rfl,r⟩
 | _,_,i + 1,y,.cons _ t,e=>by
   obtain ⟨u,h1,h2⟩:=cy.get (i:=i) (d:=y) t (by simpa using e)
   exact ⟨u,by simpa using h1,h2⟩
theorem cy.app {K:PySem.W.Frag} {H:Hp}:∀ {xs UK:List V} {ds KR:List D},cy K H xs ds->cy K H UK KR->cy K H (xs ++ UK) (ds ++ KR)
 | _,_,_,_,.nil,s=>s
 | _,_,_,_,.cons r t,s=>.cons r (cy.app t s)
theorem cy.Hs {K:PySem.W.Frag} {H:Hp}:∀ {xs:List V} {ds:List D} (n:Nat),cy K H xs ds->cy K H (xs.take n) (ds.take n)
 | _,_,0,_=>.nil
 | _,_,_ + 1,.nil=>.nil
 | _,_,n + 1,.cons r t=>.cons r (cy.Hs n t)
theorem cy.Ht {K:PySem.W.Frag} {H:Hp}:∀ {xs:List V} {ds:List D} (n:Nat),cy K H xs ds->cy K H (xs.drop n) (ds.drop n)
 | _,_,0,r=>r
 | _,_,_ + 1,.nil=>.nil
 | _,_,n + 1,.cons _ t=>cy.Ht n t
theorem cy.ints {K:PySem.W.Frag} {H:Hp}:∀ ns:List Int,cy K H (ns.map V.int) (ns.map PyData.int)
 | []=>.nil
 | n :: ns=>.cons (.int n) (cy.ints ns)
theorem Fl {H:Hp} {A:List Addr} {a:Addr} {xs:List V} (h:cx H a xs) (al:Ls A H):cx (wo H A) a xs:=by
 rcases h with h | ⟨ob,h⟩
 ·refine .inl ?_
  rw [bp fun z=>?_]; exact h
  obtain ⟨o,e,q⟩:=al.1 a z
  rw [h] at e; cases e; exact q
 ·refine .inr ⟨ob,?_⟩
  rw [bp fun z=>?_]; exact h
  obtain ⟨o,e,q⟩:=al.1 a z
  rw [h] at e; cases e; exact q
inductive wK (K:PySem.W.Frag) (H:Hp):HO->D->Prop
 | lst {ys:List V} {ds:List D}:cy K H ys ds->wK K H (.lst ys) (.list ds)
 | mj {aK:List (List Key×V)} {kds:List (D×D)}:kds.map (·.1)=aK.map (fun p=>PyData.tuple (p.1.map fJ))->cy K H (aK.map (·.2)) (kds.map (·.2))->wK K H (.dT aK) (.dict kds)
theorem wK.same {K:PySem.W.Frag} {H H':Hp} {o:HO} {d:D} (s:az H H') (h:wK K H o d):wK K H' o d:=by
 cases h with
 | lst q=>exact .lst (q.same s)
 | mj k q=>exact .mj k (q.same s)
theorem wK.own {K:PySem.W.Frag} {H:Hp} {o:HO} {d:D} (h:wK K H o d):Fk o:=by cases h <;> trivial
theorem wK.hd {K:PySem.W.Frag} {H:Hp} {o:HO} {d:D} {l:Addr} (h:wK K H o d) (e:H l=some o):HD K H (.ref l) d:=by
 cases h with
 | lst q=>exact .lst (.of e) q
 | mj k q=>exact .mj e k q
def Ae:List (D×D)->Bool
 | (.list [],_) :: _=>true
 | _=>false
def gg (K:PySem.W.Frag) (A:List Addr) (H:Hp) (v:V) (d:D):Prop:=HD K (wo H A) v d \/ ∃ l o,v=.ref l /\ H l=some o /\ wK K (wo H A) o d
section
variable {K:PySem.W.Frag} {H H':Hp} {A A':List Addr} {v:V} {d:D}
theorem gg.of (h:HD K (wo H A) v d):gg K A H v d:=.inl h
theorem gg.same (s:az H H') (h:gg K A H v d):gg K A H' v d:=by
 rcases h with h | ⟨l,o,rfl,e,q⟩
 ·exact .inl (h.same (cq s))
 ·exact .inr ⟨l,o,rfl,s _ _ e,q.same (cq s)⟩
theorem gg.Hu (h:gg K A H v d):HD K H v d:=by
 rcases h with h | ⟨l,o,rfl,e,q⟩
 ·exact h.same bH
 ·exact (q.same bH).hd e
theorem gg.list {ds:List D} (h:gg K A H v (.list ds)):∃ l ys,v=.ref l /\ v7 K H l ys /\ cy K (wo H A) ys ds:=by
 rcases h with h | ⟨l,o,rfl,e,q⟩
 ·cases h with
  | lst hq h=>exact ⟨_,_,rfl,hq.same bH,h⟩
 ·cases q with
  | lst q=>exact ⟨l,_,rfl,.of e,q⟩
theorem gg.Ma {ds:List D} (h:gg K A H v (.tuple ds)):∃ l ys,v=.ref l /\ cx H l ys /\ cy K (wo H A) ys ds:=by
 rcases h with h | ⟨l,o,rfl,e,q⟩
 ·cases h with
  | tup hq h=>exact ⟨_,_,rfl,bH.lF hq,h⟩
 ·cases q
theorem gg.tuple {ds:List D} (h:gg K A H v (.tuple ds)):∃ l ys,v=.ref l /\ jk K H l ys /\ cy K (wo H A) ys ds:=
 let ⟨l,ys,a,b,c⟩:=h.Ma; ⟨l,ys,a,.inl b,c⟩
theorem gg.dict {kds:List (D×D)} (h:gg K A H v (.dict kds)) (hf:Ae kds=false):∃ l aK,v=.ref l /\ H l=some (.dT aK) /\ kds.map (·.1)=aK.map (fun p=>PyData.tuple (p.1.map fJ)) /\ cy K (wo H A) (aK.map (·.2)) (kds.map (·.2)):=by
 rcases h with h | ⟨l,o,rfl,e,q⟩
 ·cases h with
  | mj hq k h=>exact ⟨_,_,rfl,bH _ _ hq,k,h⟩
  | exc _ _=>cases hf
 ·cases q with
  | mj k q=>exact ⟨l,_,rfl,e,k,q⟩
theorem gg.fz {ds:List D} (h:gg K A H v (.tuple ds)):HD K (wo H A) v (.tuple ds):=by
 rcases h with h | ⟨l,o,rfl,e,q⟩
 ·exact h
 ·cases q
theorem gg.int {i:Int} (h:gg K A H v (.int i)):v=.int i:=by
 rcases h with h | ⟨l,o,rfl,e,q⟩
 ·cases h; rfl
 ·cases q
theorem gg.bool {b:Bool} (h:gg K A H v (.bool b)):v=.bl b:=by
 rcases h with h | ⟨l,o,rfl,e,q⟩
 ·cases h; rfl
 ·cases q
theorem gg.str {b:Str} (h:gg K A H v (.str b)):v=.str b:=by
 rcases h with h | ⟨l,o,rfl,e,q⟩
 ·cases h; rfl
 ·cases q
theorem gg.gU (h:gg K A H v .none):v=.gU:=by
 rcases h with h | ⟨l,o,rfl,e,q⟩
 ·cases h; rfl
 ·cases q
end
structure Rel (K:PySem.W.Frag) (O:List Nat) (U A0:List Addr) (σ:St) (δ:DS) (H:Hp):Prop where
 len:σ.length=δ.length
 fz:∀ (i:Nat) d,i∉O->δ[i]?=some (some d)->∃ v,σ[i]?=some (some v) /\ HD K (wo H (U ++ A0)) v d
 ow:∀ (i:Nat) d,i∈O->δ[i]?=some (some d)->∃ l o,σ[i]?=some (some (.ref l)) /\ l∈U /\ H l=some o /\ wK K (wo H (U ++ A0)) o d
 inj:∀ (i j:Nat) d e l,i∈O->j∈O->i≠j->δ[i]?=some (some d)->δ[j]?=some (some e)->σ[i]?=some (some (.ref l))->σ[j]?=some (some (.ref l))->False
 al:Ls (U ++ A0) H
section
variable {K:PySem.W.Frag} {O:List Nat} {U A0:List Addr} {σ:St} {δ:DS} {H H':Hp}
theorem Rel.same (R:Rel K O U A0 σ δ H) (s:az H H'):Rel K O U A0 σ δ H' where
 len:=R.len
 fz:=fun i d hi e=>let ⟨v,a,b⟩:=R.fz i d hi e; ⟨v,a,b.same (cq s)⟩
 ow:=fun i d hi e=>let ⟨l,o,a,c,f,g⟩:=R.ow i d hi e; ⟨l,o,a,c,s _ _ f,g.same (cq s)⟩
 inj:=R.inj
 al:=R.al.same s
theorem Rel.UL (R:Rel K O U A0 σ δ H) (i:Nat) (d:D) (hi:i∈O) (e:δ[i]?=some (some d)):(∃ l ys ds,σ[i]?=some (some (.ref l)) /\ d=.list ds /\ l∈U /\ H l=some (.lst ys) /\ cy K (wo H (U ++ A0)) ys ds) \/ ∃ kds,d=.dict kds:=by
 obtain ⟨l,o,a,c,f,g⟩:=R.ow i d hi e
 cases g with
 | lst q=>exact .inl ⟨l,_,_,a,rfl,c,f,q⟩
 | mj k q=>exact .inr ⟨_,rfl⟩
theorem Rel.at (R:Rel K O U A0 σ δ H) {i:Nat} {d:D} (e:δ[i]?=some (some d)):∃ v,σ[i]?=some (some v) /\ gg K (U ++ A0) H v d:=by
 by_cases hi:i∈O
 ·obtain ⟨l,o,a,c,f,g⟩:=R.ow i d hi e
  exact ⟨_,a,.inr ⟨l,o,rfl,f,g⟩⟩
 ·obtain ⟨v,a,b⟩:=R.fz i d hi e
  exact ⟨v,a,.inl b⟩
theorem Rel.set (R:Rel K O U A0 σ δ H) {i:Nat} {v:V} {d:D} (hi:i∉O) (h:HD K (wo H (U ++ A0)) v d):Rel K O U A0 (σ.set i (some v)) (δ.set i (some d)) H where
 len:=by rw [List.length_set,List.length_set]; exact R.len
 fz:=fun j e hj q=>by
  by_cases qr:i=j
  ·subst qr
   have hl:i < δ.length:=by have:=(List.getElem?_eq_some_iff.mp q).1; rwa [List.length_set] at this
   rw [List.getElem?_set_self hl] at q
   cases q
   exact ⟨v,List.getElem?_set_self (by rw [R.len]; exact hl),h⟩
  ·rw [List.getElem?_set_ne qr] at q ⊢
   exact R.fz j e hj q
 ow:=fun j e hj q=>by
  have qr:i≠j:=fun z=>hi (z ▸ hj)
  rw [List.getElem?_set_ne qr] at q ⊢
  exact R.ow j e hj q
 inj:=fun j k d e l hj hk KS q1 q2 e1 e2=>by
  have qr:i≠j:=fun z=>hi (z ▸ hj)
  have Hv:i≠k:=fun z=>hi (z ▸ hk)
  rw [List.getElem?_set_ne qr] at q1 e1
  rw [List.getElem?_set_ne Hv] at q2 e2
  exact R.inj j k d e l hj hk KS q1 q2 e1 e2
 al:=R.al
theorem Rel.Mb (R:Rel K O U A0 σ δ H) (s:az H H') {i:Nat} {r:Addr} {ob:HO} {db:D} (hr:H r=none) (h:H' r=some ob) (q:wK K (wo H' (r :: (U ++ A0))) ob db) (hi:i∈O):
  Rel K O (r :: U) A0 (σ.set i (some (.ref r))) (δ.set i (some db)) H' where
 len:=by rw [List.length_set,List.length_set]; exact R.len
 fz:=fun j e hj q=>by
  have qr:i≠j:=fun z=>hj (z ▸ hi)
  rw [List.getElem?_set_ne qr] at q ⊢
  obtain ⟨v,a,b⟩:=R.fz j e hj q
  exact ⟨v,a,b.same (yN s hr)⟩
 ow:=fun j e hj w=>by
  by_cases qr:i=j
  ·subst qr
   have hl:i < δ.length:=by have:=(List.getElem?_eq_some_iff.mp w).1; rwa [List.length_set] at this
   rw [List.getElem?_set_self hl] at w
   cases w
   exact ⟨r,ob,List.getElem?_set_self (by rw [R.len]; exact hl),by simp,h,q⟩
  ·rw [List.getElem?_set_ne qr] at w ⊢
   obtain ⟨l,o,a,c,f,g⟩:=R.ow j e hj w
   exact ⟨l,o,a,by simp [c],s _ _ f,g.same (yN s hr)⟩
 inj:=fun j k d e l hj hk KS q1 q2 e1 e2=>by
  have Mc:∀ {x:D},(δ.set i (some db))[i]?=some (some x)->i < δ.length:=fun w=>by have:=(List.getElem?_eq_some_iff.mp w).1; rwa [List.length_set] at this
  by_cases qr:i=j
  ·subst qr
   have Hv:i≠k:=KS
   rw [List.getElem?_set_self (by rw [R.len]; exact Mc q1)] at e1
   rw [List.getElem?_set_ne Hv] at q2 e2
   cases e1
   obtain ⟨l,o,a,c,f,g⟩:=R.ow k e hk q2
   rw [a] at e2; cases e2
   rw [hr] at f; cases f
  ·by_cases Hv:i=k
   ·subst Hv
    rw [List.getElem?_set_self (by rw [R.len]; exact Mc q2)] at e2
    rw [List.getElem?_set_ne qr] at q1 e1
    cases e2
    obtain ⟨l,o,a,c,f,g⟩:=R.ow j d hj q1
    rw [a] at e1; cases e1
    rw [hr] at f; cases f
   ·rw [List.getElem?_set_ne qr] at q1 e1
    rw [List.getElem?_set_ne Hv] at q2 e2
    exact R.inj j k d e l hj hk KS q1 q2 e1 e2
 al:=⟨fun a ha=>by
  rcases List.mem_append.mp ha with z | z
  ·rcases List.mem_cons.mp z with z | z
   ·subst z; exact ⟨ob,h,q.own⟩
   ·exact (R.al.same s).1 a (List.mem_append_left _ z)
  ·exact (R.al.same s).1 a (List.mem_append_right _ z),(R.al.same s).2⟩
theorem Rel.OJ (R:Rel K O U A0 σ δ H) (s:az H H') {i:Nat} {r:Addr} {ys:List V} {ds:List D} (hr:H r=none) (h:H' r=some (.lst ys)) (q:cy K (wo H' (r :: (U ++ A0))) ys ds) (hi:i∈O):
  Rel K O (r :: U) A0 (σ.set i (some (.ref r))) (δ.set i (some (.list ds))) H':=R.Mb s hr h (.lst q) hi
theorem Rel.Md (R:Rel K O U A0 σ δ H) {i:Nat} {l:Addr} {ob:HO} {db:D} (hi:i∈O) (hl:σ[i]?=some (some (.ref l))) (hU:l∈U) (q:wK K (wo H (U ++ A0)) ob db) (hd:∃ d,δ[i]?=some (some d)):
  Rel K O U A0 σ (δ.set i (some db)) (upd H l ob):=by
 have hw:wo (upd H l ob) (U ++ A0)=wo H (U ++ A0):=wJ (List.mem_append_left _ hU)
 obtain ⟨d0,hd⟩:=hd
 have hlen:i < δ.length:=(List.getElem?_eq_some_iff.mp hd).1
 exact {
  len:=by rw [List.length_set]; exact R.len
  fz:=fun j e hj w=>by
   have qr:i≠j:=fun z=>hj (z ▸ hi)
   rw [List.getElem?_set_ne qr] at w
   rw [hw]
   exact R.fz j e hj w
  ow:=fun j e hj w=>by
   rw [hw]
   by_cases qr:i=j
   ·subst qr
    rw [List.getElem?_set_self hlen] at w
    cases w
    exact ⟨l,ob,hl,hU,bw,q⟩
   ·rw [List.getElem?_set_ne qr] at w
    obtain ⟨l',o',a,c,f,g⟩:=R.ow j e hj w
    have iU:l'≠l:=by
     intro z; subst z
     exact R.inj i j d0 e _ hi hj qr hd w hl a
    exact ⟨l',o',a,c,by rw [aI iU]; exact f,g⟩
  inj:=fun j k d e l hj hk KS q1 q2 e1 e2=>by
   have f:∀ {m:Nat} {x:D},(δ.set i (some db))[m]?=some (some x)->∃ y,δ[m]?=some (some y):=by
    intro m x w
    by_cases UM:i=m
    ·subst UM; exact ⟨d0,hd⟩
    ·rw [List.getElem?_set_ne UM] at w; exact ⟨x,w⟩
   obtain ⟨y1,w1⟩:=f q1
   obtain ⟨y2,w2⟩:=f q2
   exact R.inj j k y1 y2 l hj hk KS w1 w2 e1 e2
  al:=⟨fun a ha=>by
   by_cases e:a=l
   ·subst e; exact ⟨ob,bw,q.own⟩
   ·rw [aI e]; exact R.al.1 a ha,fun p xs m=>
    let ⟨_,e,w⟩:=R.al.1 l (List.mem_append_left _ hU)
    (R.al.2 p xs m).ne ((R.al.2 p xs m).apart e w)⟩ }
theorem Rel.put (R:Rel K O U A0 σ δ H) {i:Nat} {l:Addr} {ys:List V} {ds:List D} (hi:i∈O) (hl:σ[i]?=some (some (.ref l))) (hU:l∈U) (q:cy K (wo H (U ++ A0)) ys ds) (hd:∃ d,δ[i]?=some (some d)):
  Rel K O U A0 σ (δ.set i (some (.list ds))) (upd H l (.lst ys)):=R.Md hi hl hU (.lst q) hd
end
structure Fx (H0:Hp) (A0 U:List Addr) (H:Hp):Prop where
 same:az H0 H
 new:∀ a∈U,H0 a=none
 old:Ls A0 H0
section
variable {K:PySem.W.Frag} {O:List Nat} {U U' A0:List Addr} {σ:St} {δ:DS} {H0 H H':Hp}
theorem Fx.grow (F:Fx H0 A0 U H) (s:az H H'):Fx H0 A0 U H':=⟨F.same.trans s,F.new,F.old⟩
theorem Fx.more (F:Fx H0 A0 U H) (s:az H H') {r:Addr} (hr:H r=none):Fx H0 A0 (r :: U) H':=⟨F.same.trans s,fun a ha=>by
 rcases List.mem_cons.mp ha with z | z
 ·subst z; exact F.same.free hr
 ·exact F.new a z,F.old⟩
theorem Fx.put (F:Fx H0 A0 U H) {l:Addr} (hl:l∈U) (o:HO):Fx H0 A0 U (upd H l o):=⟨F.same.upd (F.new l hl) o,F.new,F.old⟩
theorem Fx.out (F:Fx H0 A0 U H) {l:Addr} (hl:l∈U):l∉A0:=fun z=>by
 obtain ⟨ys,e,_⟩:=F.old.1 l z
 rw [F.new l hl] at e; cases e
theorem Fx.here (F:Fx H0 A0 U H):Fx (wo H U) A0 U H:=⟨bH,fun _ h=>jw h,fun a ha=>by
 obtain ⟨ys,e,q⟩:=F.old.1 a ha
 refine ⟨ys,?_,q⟩
 rw [bp fun z=>?_]
 ·exact F.same _ _ e
 ·exact F.out z ha,fun p xs m=>(F.same.lF (F.old.2 p xs m)).wo fun z=>by
 rcases F.old.2 p xs m with t | ⟨ob,t⟩ <;> rw [F.new p z] at t <;> cases t⟩
theorem Fx.trans (F:Fx H0 A0 U H) (G:Fx (wo H U) A0 U' H'):Fx H0 A0 U' H':=by
 have k:∀ a o,H0 a=some o->wo H U a=some o:=fun a o e=>by
  rw [bp fun z=>?_]
  ·exact F.same _ _ e
  ·rw [F.new a z] at e; cases e
 refine ⟨fun a o e=>G.same _ _ (k a o e),fun a ha=>?_,F.old⟩
 cases e:H0 a with
 | none=>rfl
 | some o=>
   have:=G.new a ha
   rw [k a o e] at this; cases this
theorem Fx.keeps (G:Fx (wo H U) A0 U' H'):az (wo H (U ++ A0)) (wo H' (U' ++ A0)):=fun b o e=>by
 obtain ⟨h1,h2⟩:=gZ e
 simp only [List.mem_append,not_or] at h1
 have h3:wo H U b=some o:=by rw [bp h1.1]; exact h2
 rw [bp]
 ·exact G.same _ _ h3
 ·simp only [List.mem_append,not_or]
  refine ⟨fun z=>?_,h1.2⟩
  rw [G.new b z] at h3; cases h3
end
def tE (K:PySem.W.Frag) (O:List Nat) (g:DS->Option D):TE:=fun σ H Q=>∃ U A0 δ d,Rel K O U A0 σ δ H /\ g δ=some d /\ ∀ v H',az H H'->HD K (wo H' (U ++ A0)) v d->Q v H'
theorem tE.e {K:PySem.W.Frag} {O:List Nat} {g:DS->Option D}  {σ:_} {H:_} {Q:_} {GG:Prop} (hh:tE K O g σ H Q) (kk:∀ U A0 δ d,(Rel K O U A0 σ δ H)->(g δ=some d)->(∀ v H',az H H'->HD K (wo H' (U ++ A0)) v d->Q v H')->GG):GG:=by obtain ⟨U,A0,δ,d,x0,x1,x2⟩:=hh; exact kk U A0 δ d x0 x1 x2
def g0 (K:PySem.W.Frag) (O:List Nat) (g:DS->Option D):TE:=fun σ H Q=>∃ U A0 δ d,Rel K O U A0 σ δ H /\ g δ=some d /\ ∀ v H',az H H'->gg K (U ++ A0) H' v d->Q v H'
theorem g0.e {K:PySem.W.Frag} {O:List Nat} {g:DS->Option D}  {σ:_} {H:_} {Q:_} {GG:Prop} (hh:g0 K O g σ H Q) (kk:∀ U A0 δ d,(Rel K O U A0 σ δ H)->(g δ=some d)->(∀ v H',az H H'->gg K (U ++ A0) H' v d->Q v H')->GG):GG:=by obtain ⟨U,A0,δ,d,x0,x1,x2⟩:=hh; exact kk U A0 δ d x0 x1 x2
def tN (K:PySem.W.Frag) (O:List Nat) (g:DS->Option (List D)):TE:=fun σ H Q=>∃ U A0 δ ds,Rel K O U A0 σ δ H /\ g δ=some ds /\
 ∀ r ys H',az H H'->H r=none->H' r=some (.lst ys)->cy K (wo H' (r :: (U ++ A0))) ys ds->Q (.ref r) H'
theorem tN.e {K:PySem.W.Frag} {O:List Nat} {g:DS->Option (List D)}  {σ:_} {H:_} {Q:_} {GG:Prop} (hh:tN K O g σ H Q) (kk:∀ U A0 δ ds,(Rel K O U A0 σ δ H)->(g δ=some ds)->(∀ r ys H',az H H'->H r=none->H' r=some (.lst ys)->cy K (wo H' (r :: (U ++ A0))) ys ds->Q (.ref r) H')->GG):GG:=by obtain ⟨U,A0,δ,ds,x0,x1,x2⟩:=hh; exact kk U A0 δ ds x0 x1 x2
def tT (K:PySem.W.Frag) (O:List Nat) (g:DS->Option Bool):TT:=fun σ H Q=>∃ U A0 δ b,Rel K O U A0 σ δ H /\ g δ=some b /\ ∀ H',az H H'->Q b H'
theorem tT.e {K:PySem.W.Frag} {O:List Nat} {g:DS->Option Bool}  {σ:_} {H:_} {Q:_} {GG:Prop} (hh:tT K O g σ H Q) (kk:∀ U A0 δ b,(Rel K O U A0 σ δ H)->(g δ=some b)->(∀ H',az H H'->Q b H')->GG):GG:=by obtain ⟨U,A0,δ,b,x0,x1,x2⟩:=hh; exact kk U A0 δ b x0 x1 x2
def oO (K:PySem.W.Frag) (O:List Nat) (g:DS->Option (List D)):TA:=fun σ H Q=>∃ U A0 δ ds,Rel K O U A0 σ δ H /\ g δ=some ds /\ ∀ vs H',az H H'->cy K (wo H' (U ++ A0)) vs ds->Q vs H'
theorem oO.e {K:PySem.W.Frag} {O:List Nat} {g:DS->Option (List D)}  {σ:_} {H:_} {Q:_} {GG:Prop} (hh:oO K O g σ H Q) (kk:∀ U A0 δ ds,(Rel K O U A0 σ δ H)->(g δ=some ds)->(∀ vs H',az H H'->cy K (wo H' (U ++ A0)) vs ds->Q vs H')->GG):GG:=by obtain ⟨U,A0,δ,ds,x0,x1,x2⟩:=hh; exact kk U A0 δ ds x0 x1 x2
def ux (K:PySem.W.Frag) (A:List Addr) (H:Hp):List V->List D->Prop:=Paired (gg K A H)
def qt (K:PySem.W.Frag) (O:List Nat) (g:DS->Option (List D)):TA:=fun σ H Q=>∃ U A0 δ ds,Rel K O U A0 σ δ H /\ g δ=some ds /\ ∀ vs H',az H H'->ux K (U ++ A0) H' vs ds->Q vs H'
theorem qt.e {K:PySem.W.Frag} {O:List Nat} {g:DS->Option (List D)}  {σ:_} {H:_} {Q:_} {GG:Prop} (hh:qt K O g σ H Q) (kk:∀ U A0 δ ds,(Rel K O U A0 σ δ H)->(g δ=some ds)->(∀ vs H',az H H'->ux K (U ++ A0) H' vs ds->Q vs H')->GG):GG:=by obtain ⟨U,A0,δ,ds,x0,x1,x2⟩:=hh; exact kk U A0 δ ds x0 x1 x2
inductive Res where
 | nx (δ:DS) | rt (d:D) | bk (δ:DS) | ct (δ:DS)
def iA (K:PySem.W.Frag) (fr:Bool) (H0:Hp) (A0:List Addr) (v:V) (d:D) (H':Hp):Prop:=
 if fr=true then ∃ r o,v=.ref r /\ az H0 H' /\ H0 r=none /\ H' r=some o /\ wK K (wo H' (r :: A0)) o d else az H0 H' /\ HD K (wo H' A0) v d
def mB (c:Str):D:=.dict [(.none,.str c)]
abbrev Fr:=Bool×(Str->Hp->Prop)
def Me (K:PySem.W.Frag) (O:List Nat) (fr:Fr) (H0:Hp) (A0:List Addr) (E:Ends):Res->Prop
 | .nx δ=>∀ U σ H,Rel K O U A0 σ δ H->Fx H0 A0 U H->E.nx σ H
 | .bk δ=>∀ U σ H,Rel K O U A0 σ δ H->Fx H0 A0 U H->E.bk σ H
 | .ct δ=>∀ U σ H,Rel K O U A0 σ δ H->Fx H0 A0 U H->E.ct σ H
 | .rt d=>(∀ v H,iA K fr.1 H0 A0 v d H->E.rt v H) /\ ∀ c H,d=mB c->az H0 H->fr.2 c H
def tS (K:PySem.W.Frag) (O:List Nat) (fr:Fr) (g:DS->Option Res):TS:=fun E σ H=>∃ H0 U A0 δ r,Rel K O U A0 σ δ H /\ Fx H0 A0 U H /\ g δ=some r /\ Me K O fr H0 A0 E r
theorem tS.e {K:PySem.W.Frag} {O:List Nat} {fr:Fr} {g:DS->Option Res}  {E:_} {σ:_} {H:_} {GG:Prop} (hh:tS K O fr g E σ H) (kk:∀ H0 U A0 δ r,(Rel K O U A0 σ δ H)->(Fx H0 A0 U H)->(g δ=some r)->(Me K O fr H0 A0 E r)->GG):GG:=by obtain ⟨H0,U,A0,δ,r,x0,x1,x2,x3⟩:=hh; exact kk H0 U A0 δ r x0 x1 x2 x3
def Walks (K:PySem.W.Frag) (A:List Addr) (H1:Hp) (J:It) (ds:List D):Prop:=∀ (A':List Addr) (i:Nat) (H:Hp),az (wo H1 A) (wo H A')->Ls A' H->
 (∀ d,ds[i]?=some d->J.go i H /\ ∀ x H2,J.Ip i H x H2->az H H2 /\ HD K (wo H2 A') x d) /\ (i=ds.length->J.stop i H)
def tI (K:PySem.W.Frag) (O:List Nat) (g:DS->Option (List D)):TI:=fun σ H R=>∃ U A0 δ ds,Rel K O U A0 σ δ H /\ g δ=some ds /\ ∀ J H1,az H H1->Walks K (U ++ A0) H1 J ds->R J H1
theorem tI.e {K:PySem.W.Frag} {O:List Nat} {g:DS->Option (List D)}  {σ:_} {H:_} {R:_} {GG:Prop} (hh:tI K O g σ H R) (kk:∀ U A0 δ ds,(Rel K O U A0 σ δ H)->(g δ=some ds)->(∀ J H1,az H H1->Walks K (U ++ A0) H1 J ds->R J H1)->GG):GG:=by obtain ⟨U,A0,δ,ds,x0,x1,x2⟩:=hh; exact kk U A0 δ ds x0 x1 x2
def tG (K:PySem.W.Frag) (O:List Nat) (g:D->DS->Option DS):TG:=fun v σ H Q=>∃ U A0 δ d δ',Rel K O U A0 σ δ H /\ HD K (wo H (U ++ A0)) v d /\ g d δ=some δ' /\ ∀ bM,Rel K O U A0 bM δ' H->Q bM H
theorem tG.e {K:PySem.W.Frag} {O:List Nat} {g:D->DS->Option DS}  {v:_} {σ:_} {H:_} {Q:_} {GG:Prop} (hh:tG K O g v σ H Q) (kk:∀ U A0 δ d δ',(Rel K O U A0 σ δ H)->(HD K (wo H (U ++ A0)) v d)->(g d δ=some δ')->(∀ bM,Rel K O U A0 bM δ' H->Q bM H)->GG):GG:=by obtain ⟨U,A0,δ,d,δ',x0,x1,x2,x3⟩:=hh; exact kk U A0 δ d δ' x0 x1 x2 x3
section
variable {X:Cx}
theorem PE.mono {e:Expr} {t t':TE} (h:PE X e t) (m:∀ σ H Q,t' σ H Q->t σ H Q):PE X e t':=fun pins s σ H Q I q=>h pins s σ H Q I (m σ H Q q)
theorem PT.mono {e:Expr} {t t':TT} (h:PT X e t) (m:∀ σ H Q,t' σ H Q->t σ H Q):PT X e t':=fun pins s σ H Q I q=>h pins s σ H Q I (m σ H Q q)
theorem PW.mono {e:Expr} {t t':TT} (h:PW X e t) (m:∀ σ H Q,t' σ H Q->t σ H Q):PW X e t':=fun w pins s σ H Q I q=>h w pins s σ H Q I (m σ H Q q)
theorem PA.mono {e:List Expr} {t t':TA} (h:PA X e t) (m:∀ σ H Q,t' σ H Q->t σ H Q):PA X e t':=fun pos pins s σ H Q I q=>h pos pins s σ H Q I (m σ H Q q)
theorem PS.mono {e:Stmt} {t t':TS} (h:PS X e t) (m:∀ E σ H,t' E σ H->t E σ H):PS X e t':=fun pins s σ H E I q=>h pins s σ H E I (m E σ H q)
theorem ji.mono {e:List Stmt} {t t':TS} (h:ji X e t) (m:∀ E σ H,t' E σ H->t E σ H):ji X e t':=fun pins s σ H E I q=>h pins s σ H E I (m E σ H q)
theorem PI.mono {tg e:Expr} {t t':TI} (h:PI X tg e t) (m:∀ σ H R,t' σ H R->t σ H R):PI X tg e t':=fun pins s σ H R I q=>h pins s σ H R I (m σ H R q)
theorem PG.mono {e:Expr} {t t':TG} (h:PG X e t) (m:∀ v σ H Q,t' v σ H Q->t v σ H Q):PG X e t':=fun pins s σ H v u Q I r q=>h pins s σ H v u Q I r (m v σ H Q q)
theorem PO.mono {e:Option Expr} {t t':TO} (h:PO X e t) (m:∀ σ H Q,t' σ H Q->t σ H Q):PO X e t':=fun pins s σ H Q I q=>h pins s σ H Q I (m σ H Q q)
end
def af (i:Nat):DS->Option D:=fun δ=>(δ[i]?).join
def gC (d:D):DS->Option D:=fun _=>some d
def aU (g:DS->Option (List D)):DS->Option D:=fun δ=>(g δ).map .list
theorem join_some {α:Type} {o:Option (Option α)} {d:α} (h:o.join=some d):o=some (some d):=by
 cases o with
 | none=>cases h
 | some p=>cases p with
   | none=>cases h
   | some q=>cases h; rfl
section
variable {X:Cx} {O:List Nat} {e:Expr} {g:DS->Option D}
theorem aq {i:Nat} (h:PE X e (qg i)) (hi:i∉O:=by decide):PE X e (tE X.K O (af i)):=h.mono fun σ H Q hh=>hh.e fun U A0 δ d R ed q=>by
 obtain ⟨v,hv,hd⟩:=R.fz i d hi (join_some ed)
 exact ⟨v,hv,q v H (az.refl H) hd⟩
theorem ag {i:Nat} (h:PE X e (qg i)):PE X e (g0 X.K O (af i)):=h.mono fun σ H Q hh=>hh.e fun U A0 δ d R ed q=>by
 obtain ⟨v,hv,hd⟩:=R.at (join_some ed)
 exact ⟨v,hv,q v H (az.refl H) hd⟩
theorem Jf {v:V} {d:D} (h:PE X e (tC v)) (hd:∀ H,HD X.K H v d):PE X e (tE X.K O (gC d)):=h.mono fun σ H Q hh=>hh.e fun U A0 δ d' R ed q=>by
 cases ed
 exact q v H (az.refl H) (hd _)
theorem ai {i:Int} (h:PE X e (tC (.int i))):PE X e (tE X.K O (gC (.int i))):=Jf h fun _=>.int i
theorem Hw {i:Bool} (h:PE X e (tC (.bl i))):PE X e (tE X.K O (gC (.bool i))):=Jf h fun _=>.bl i
theorem eP {i:Str} (h:PE X e (tC (.str i))):PE X e (tE X.K O (gC (.str i))):=Jf h fun _=>.str i
theorem PE.sh (h:PE X e (tE X.K O g)):PE X e (g0 X.K O g):=h.mono fun σ H Q hh=>hh.e fun U A0 δ d R ed q=>⟨U,A0,δ,d,R,ed,fun v H' s z=>q v H' s (.inl z)⟩
theorem Hx {K:PySem.W.Frag} {g:DS->Option (List D)} {σ:St} {H:Hp} {Q:VK}:tE K O (aU g) σ H Q->tN K O g σ H Q:=fun ⟨U,A0,δ,d,R,ed,q⟩=>by
 unfold aU at ed
 cases eg:g δ with
 | none=>rw [eg] at ed; cases ed
 | some ds=>
   rw [eg] at ed; cases ed
   refine ⟨U,A0,δ,ds,R,eg,fun r ys H' s hr h1 h2=>q _ H' s ?_⟩
   have hn:=R.al.free hr
   exact .lst (.of (by rw [bp hn]; exact h1)) (h2.same (fR fun a ha=>List.mem_cons_of_mem _ ha))
theorem PE.nE {g:DS->Option (List D)} (h:PE X e (tN X.K O g)):PE X e (tE X.K O (aU g)):=h.mono fun _ _ _=>Hx
end
def g2 (f:D->D->Option D) (a b:DS->Option D):DS->Option D:=fun δ=>(a δ).bind fun x=>(b δ).bind fun y=>f x y
def tY (f:D->D->Option (List D)) (a b:DS->Option D):DS->Option (List D):=fun δ=>(a δ).bind fun x=>(b δ).bind fun y=>f x y
def ik (K:PySem.W.Frag) (r:R2) (f:D->D->Option D):Prop:=∀ (A:List Addr) (H:Hp) (x y:V) (dx dy d:D) (Q:VK),Ls A H->gg K A H x dx->gg K A H y dy->f dx dy=some d->(∀ v H',az H H'->HD K (wo H' A) v d->Q v H')->r x y H Q
def B7 (K:PySem.W.Frag) (r:R2) (f:D->D->Option (List D)):Prop:=∀ (A:List Addr) (H:Hp) (x y:V) (dx dy:D) (ds:List D) (Q:VK),Ls A H->gg K A H x dx->gg K A H y dy->f dx dy=some ds->
 (∀ p ys,H p=none->cy K (wo H A) ys ds->Q (.ref p) (upd H p (.lst ys)))->r x y H Q
theorem yO {α β γ:Type} {a:Option α} {b:Option β} {f:α->β->Option γ} {d:γ} (h:(a.bind fun x=>b.bind fun y=>f x y)=some d):∃ x y,a=some x /\ b=some y /\ f x y=some d:=by
 cases a with
 | none=>cases h
 | some x=>cases b with
   | none=>cases h
   | some y=>exact ⟨x,y,rfl,rfl,h⟩
theorem bind1 {α β:Type} {a:Option α} {f:α->Option β} {d:β} (h:a.bind f=some d):∃ x,a=some x /\ f x=some d:=by
 cases a with
 | none=>cases h
 | some x=>exact ⟨x,rfl,h⟩
section
variable {X:Cx} {O:List Nat} {a b:Expr} {ga gb:DS->Option D} {pos:Pos} {r:R2}
theorem yP {K:PySem.W.Frag} {f:D->D->Option D} (imp:ik K r f) {σ:St} {H:Hp} {Q:VK}:tE K O (g2 f ga gb) σ H Q->KL r (g0 K O ga) (g0 K O gb) σ H Q:=fun ⟨U,A0,δ,d,R,ed,q⟩=>by
 obtain ⟨x,y,ex,ey,ef⟩:=yO ed
 exact ⟨U,A0,δ,x,R,ex,fun v1 H1 s1 h1=>⟨U,A0,δ,y,R.same s1,ey,fun v2 H2 s2 h2=>imp _ H2 v1 v2 x y d Q (R.same (s1.trans s2)).al (h1.same s2) h2 ef fun v H' s h=>q v H' ((s1.trans s2).trans s) h⟩⟩
theorem qX {K:PySem.W.Frag} {A:List Addr} {H H2:Hp} {ds:List D} {Q:VK} (s:az H H2) (q:∀ r ys H',az H H'->H r=none->H' r=some (.lst ys)->cy K (wo H' (r :: A)) ys ds->Q (.ref r) H'):∀ p ys,H2 p=none->cy K (wo H2 A) ys ds->Q (.ref p) (upd H2 p (.lst ys)):=
 fun p ys hp h=>q p ys _ (s.trans (bI hp _)) (s.free hp) bw (by rw [uw hp]; exact h)
theorem Mf {K:PySem.W.Frag} {f:D->D->Option (List D)} (imp:B7 K r f) {σ:St} {H:Hp} {Q:VK}:tN K O (tY f ga gb) σ H Q->KL r (g0 K O ga) (g0 K O gb) σ H Q:=fun ⟨U,A0,δ,d,R,ed,q⟩=>by
 obtain ⟨x,y,ex,ey,ef⟩:=yO ed
 exact ⟨U,A0,δ,x,R,ex,fun v1 H1 s1 h1=>⟨U,A0,δ,y,R.same s1,ey,fun v2 H2 s2 h2=>imp _ H2 v1 v2 x y d Q (R.same (s1.trans s2)).al (h1.same s2) h2 ef (qX (s1.trans s2) q)⟩⟩
theorem ay {op:Operator} {f:D->D->Option D} (ho:gH X (binaryOp op) r) (imp:ik X.K r f) (ha:PE X a (g0 X.K O ga)) (hb:PE X b (g0 X.K O gb)):PE X (.BinOp a op b pos) (tE X.K O (g2 f ga gb)):=(Hf ho ha hb).mono fun _ _ _=>yP imp
theorem jx {op:Operator} {f:D->D->Option (List D)} (ho:gH X (binaryOp op) r) (imp:B7 X.K r f) (ha:PE X a (g0 X.K O ga)) (hb:PE X b (g0 X.K O gb)):PE X (.BinOp a op b pos) (tN X.K O (tY f ga gb)):=(Hf ho ha hb).mono fun _ _ _=>Mf imp
theorem B8 {op:CmpOp} {f:D->D->Option D} (ho:gH X (compareOp op) r) (imp:ik X.K r f) (ha:PE X a (g0 X.K O ga)) (hb:PE X b (g0 X.K O gb)) (hm:behindInMarks op b=false):PE X (.Compare a [op] [b] pos) (tE X.K O (g2 f ga gb)):=(EX ho ha hb hm).mono fun _ _ _=>yP imp
def gB (g:DS->Option D):DS->Option Bool:=fun δ=>(g δ).bind fun | .bool b=>some b | _=>none
theorem Hy {K:PySem.W.Frag} {g:DS->Option D} {te:TE} (m:∀ σ H Q,tE K O g σ H Q->te σ H Q) {σ:St} {H:Hp} {Q:Bool->Hp->Prop}:tT K O (gB g) σ H Q->te σ H fun x H'=>∃ k,x=.bl k /\ Q k H':=fun ⟨U,A0,δ,b,R,ed,q⟩=>by
 obtain ⟨d,e1,e2⟩:=bind1 ed
 cases d with
 | bool c=>
   cases e2
   exact m σ H _ ⟨U,A0,δ,_,R,e1,fun v H' s h=>by cases h; exact ⟨_,rfl,q H' s⟩⟩
 | _=>cases e2
theorem bc {op:CmpOp} {f:D->D->Option D} (ho:gH X (compareOp op) r) (imp:ik X.K r f) (ha:PE X a (g0 X.K O ga)) (hb:PE X b (g0 X.K O gb)) (hm:behindInMarks op b=false):PT X (.Compare a [op] [b] pos) (tT X.K O (gB (g2 f ga gb))):=(EY ho ha hb hm).mono fun _ _ _=>Hy fun _ _ _=>yP imp
end
def dI (g:Int->Int->D):D->D->Option D
 | .int a,.int b=>some (g a b)
 | _,_=>none
open Classical in
def Hz (C:Int->Int->Prop) (g:Int->Int->D):D->D->Option D
 | .int a,.int b=>if C a b then some (g a b) else none
 | _,_=>none
open Classical in
theorem oP {C:Int->Int->Prop} {g:Int->Int->D} {a b:Int} (h:C a b):Hz C g (.int a) (.int b)=some (g a b):=by
 show (if C a b then some (g a b) else none)=_
 rw [if_pos h]
theorem B9 {g:Int->Int->D} {a b:Int}:dI g (.int a) (.int b)=some (g a b):=rfl
theorem iB {K:PySem.W.Frag} {g:Int->Int->Int}:ik K (BH fun i j=>.int (g i j)) (dI fun i j=>.int (g i j)):=by
 intro A H x y dx dy d Q al hx hy e q
 unfold dI at e
 split at e
 ·cases e
  exact ⟨_,_,hx.int,hy.int,q _ H (az.refl H) (.int _)⟩
 ·cases e
theorem dw {K:PySem.W.Frag} {g:Int->Int->Bool}:ik K (BH fun i j=>.bl (g i j)) (dI fun i j=>.bool (g i j)):=by
 intro A H x y dx dy d Q al hx hy e q
 unfold dI at e
 split at e
 ·cases e
  exact ⟨_,_,hx.int,hy.int,q _ H (az.refl H) (.bl _)⟩
 ·cases e
set_option tactic.hygienic true in
theorem aJ {K:PySem.W.Frag} {C:Int->Int->Prop} {g:Int->Int->Int}:ik K (rI C fun i j=>.int (g i j)) (Hz C fun i j=>.int (g i j)):=by
 intro A H x y dx dy d Q al hx hy e q
 unfold Hz at e
 split at e
 ·split at e
  ·rename_i c
   cases e
   exact ⟨_,_,hx.int,hy.int,c,q _ H (az.refl H) (.int _)⟩
  ·cases e
 ·cases e
abbrev e9:D->D->Option D:=dI fun i j=>.int (i - j)
abbrev cG:D->D->Option D:=Hz IntMulOk fun i j=>.int (i * j)
abbrev kB:D->D->Option D:=Hz yK fun i j=>.int (i.fdiv j)
abbrev fb:D->D->Option D:=Hz (fun _ j=>j≠0) fun i j=>.int (i.fmod j)
abbrev Ca:D->D->Option D:=Hz Iu fun i j=>.int (i ^ j.toNat)
abbrev v9:D->D->Option D:=dI fun i j=>.bool (decide (i < j))
abbrev V0:D->D->Option D:=dI fun i j=>.bool (decide (i<=j))
abbrev tZ:D->D->Option D:=dI fun i j=>.bool (decide (j < i))
abbrev OK:D->D->Option D:=dI fun i j=>.bool (decide (j<=i))
def qY:D->D->Option D
 | .int a,.int b=>some (.bool (decide (a=b)))
 | a,b=>if (SeqAt.shaped a && SeqAt.shaped b)=true then some (.bool (PyData.eqv a b)) else none
def wL:D->D->Option D:=fun a b=>(qY a b).bind fun | .bool c=>some (.bool (!c)) | _=>none
set_option tactic.hygienic true in
theorem yQ {a b d:D} (h:qY a b=some d):SeqAt.shaped a=true /\ SeqAt.shaped b=true /\ d=.bool (PyData.eqv a b):=by
 unfold qY at h
 split at h
 ·cases h
  refine ⟨by simp [SeqAt.shaped,PyData.canLay0,PyData.depth],by simp [SeqAt.shaped,PyData.canLay0,PyData.depth],?_⟩
  rw [PyData.eqv]; rfl
 ·split at h
  ·rename_i c
   rw [Bool.and_eq_true] at c
   cases h
   exact ⟨c.1,c.2,rfl⟩
  ·cases h
def Cb (K:PySem.W.Frag) (neg:Bool):R2:=fun x y H Q=>∃ d e,HD K H x d /\ HD K H y e /\ SeqAt.shaped d=true /\ SeqAt.shaped e=true /\ Q (.bl (if neg=true then !PyData.eqv d e else PyData.eqv d e)) H
section
variable {X:Cx}
theorem mC {k:Nat} (hr:dq k X.A):gH X (compareOp .Eq) (Cb X.K false):=by
 intro pins s σ H x y v u Q I rx ry h
 obtain ⟨d,e,h1,h2,s1,s2,q⟩:=h
 obtain ⟨as,r1⟩:=h1.reads I rx (cR s1)
 obtain ⟨bs,r2⟩:=h2.reads I ry (cR s2)
 exact eq_dataH r1 r2 s1 s2 hr.units ⟨.bl _,H,I,rfl,q⟩
theorem mD {k:Nat} (hr:dq k X.A):gH X (compareOp .NotEq) (Cb X.K true):=by
 intro pins s σ H x y v u Q I rx ry h
 obtain ⟨d,e,h1,h2,s1,s2,q⟩:=h
 obtain ⟨as,r1⟩:=h1.reads I rx (cR s1)
 obtain ⟨bs,r2⟩:=h2.reads I ry (cR s2)
 exact ne_dataH r1 r2 s1 s2 hr.units ⟨.bl _,H,I,rfl,q⟩
end
theorem imp_eq {K:PySem.W.Frag}:ik K (Cb K false) qY:=by
 intro A H x y dx dy d Q al hx hy e q
 obtain ⟨a,b,rfl⟩:=yQ e
 exact ⟨dx,dy,hx.Hu,hy.Hu,a,b,q _ H (az.refl H) (.bl _)⟩
theorem kC {K:PySem.W.Frag}:ik K (Cb K true) wL:=by
 intro A H x y dx dy d Q al hx hy e q
 obtain ⟨c,e1,e2⟩:=bind1 e
 obtain ⟨a,b,rfl⟩:=yQ e1
 cases e2
 exact ⟨dx,dy,hx.Hu,hy.Hu,a,b,q _ H (az.refl H) (.bl _)⟩
def Cc (K:PySem.W.Frag):R2:=fun x y H Q=>∃ l b xs zs,x=.ref l /\ y=.ref b /\ v7 K H l xs /\ v7 K H b zs /\ xs.length + zs.length<=sizeLine /\ ∀ p,H p=none->Q (.ref p) (upd H p (.lst (xs ++ zs)))
theorem gj {X:Cx}:gH X (binaryOp .Add) (Cc X.K):=by
 intro pins s σ H x y v u Q I rx ry h
 obtain ⟨l,b,xs,zs,rfl,rfl,hH,hB,hz,q⟩:=h
 cases rx
 cases ry
 obtain ⟨z,its,n,r,e⟩:=I.UJ hH
 obtain ⟨z2,qk,n2,r2,e2⟩:=I.UJ hB
 have hl:=r.length
 have BS:=r2.length
 refine PySem.P.add_list e e2 ?_ (by rw [List.size_toArray,List.size_toArray]; omega)
 have ea:its.toArray ++ qk.toArray=(its ++ qk).toArray:=by simp
 rw [ea]
 exact ⟨.ref _,_,I.OD (t':=s.toks) (r.append r2) (by rw [List.length_append]; omega),rfl,q _ I.fresh⟩
def jy:D->D->Option (List D)
 | .list a,.list b=>if a.length + b.length<=100000 then some (a ++ b) else none
 | _,_=>none
set_option tactic.hygienic true in
theorem gm {K:PySem.W.Frag}:B7 K (Cc K) jy:=by
 intro A H x y dx dy ds Q al hx hy e q
 unfold jy at e
 split at e
 ·split at e
  ·rename_i hz
   cases e
   obtain ⟨l,xs,rfl,h1,h2⟩:=hx.list
   obtain ⟨b,zs,rfl,h3,h4⟩:=hy.list
   have:=h2.len
   have:=h4.len
   exact ⟨l,b,xs,zs,rfl,rfl,h1,h3,small (by omega),fun p hp=>q p _ hp (h2.app h4)⟩
  ·cases e
 ·cases e
def Jg:D->D->Option D
 | .int a,.int b=>some (.int (a + b))
 | .str a,.str b=>if a.length + b.length<=100000 then some (.str (a ++ b)) else none
 | .list a,.list b=>if a.length + b.length<=100000 then some (.list (a ++ b)) else none
 | .tuple a,.tuple b=>if a.length + b.length<=100000 /\ a≠[] then some (.tuple (a ++ b)) else none
 | _,_=>none
def yR (K:PySem.W.Frag):R2:=fun x y H Q=>BH (fun i j=>.int (i + j)) x y H Q \/ (∃ i j,x=.str i /\ y=.str j /\ i.length + j.length<=sizeLine /\ Q (.str (i ++ j)) H) \/ Cc K x y H Q \/ Hj K x y H Q
theorem Fm {X:Cx}:gH X (binaryOp .Add) (yR X.K):=Iv.or (wA.or (gj.or E6))
theorem HD.OL {K:PySem.W.Frag} {A:List Addr} {H:Hp} {p:Addr} {ys:List V} {ds:List D} (al:Ls A H) (hp:H p=none) (h:cy K (wo H A) ys ds):HD K (wo (upd H p (.lst ys)) A) (.ref p) (.list ds):=by
 rw [B6 (al.free hp)]
 have hn:wo H A p=none:=by
  by_cases z:p∈A
  ·exact jw z
  ·rw [bp z]; exact hp
 exact .lst (.of bw) (h.same (bI hn _))
theorem HD.r8 {K:PySem.W.Frag} {A:List Addr} {H:Hp} {p:Addr} {ys:List V} {ds:List D} (al:Ls A H) (hp:H p=none) (h:cy K (wo H A) ys ds):HD K (wo (upd H p (.tup ys)) A) (.ref p) (.tuple ds):=by
 rw [B6 (al.free hp)]
 have hn:wo H A p=none:=by
  by_cases z:p∈A
  ·exact jw z
  ·rw [bp z]; exact hp
 exact .tup (.inl bw) (h.same (bI hn _))
set_option tactic.hygienic true in
theorem Fo {K:PySem.W.Frag}:ik K (yR K) Jg:=by
 intro A H x y dx dy d Q al hx hy e q
 unfold Jg at e
 split at e
 ·cases e
  exact .inl ⟨_,_,hx.int,hy.int,q _ H (az.refl H) (.int _)⟩
 ·split at e
  ·cases e
   exact .inr (.inl ⟨_,_,hx.str,hy.str,small (by assumption),q _ H (az.refl H) (.str _)⟩)
  ·cases e
 ·split at e
  ·rename_i hz
   cases e
   refine .inr (.inr (.inl (gm (K:=K) A H x y _ _ _ Q al hx hy (show (if _ then some _ else none)=some _ from if_pos hz) fun p ys hp h=>?_)))
   exact q _ _ (bI hp _) (HD.OL al hp h)
  ·cases e
 ·split at e
  ·rename_i hz
   cases e
   have V1:=hx.fz
   obtain ⟨a,xs,rfl,h1,h2⟩:=hx.tuple
   obtain ⟨b,zs,rfl,h3,h4⟩:=hy.tuple
   have l2:=h2.len
   have l4:=h4.len
   refine .inr (.inr (.inr ⟨a,b,xs,zs,rfl,rfl,h1,h3,?_,small (by omega),fun z=>?_,fun z p hp=>?_⟩))
   ·intro z; subst z; cases h2; exact hz.2 rfl
   ·subst z; cases h4
    rw [List.append_nil] at q
    exact q _ H (az.refl H) V1
   ·exact q _ _ (bI hp _) (HD.r8 al hp (h2.app h4))
  ·cases e
 ·cases e
def c8:D->D->Option D
 | .list ds,.int i=>rP ds i
 | .tuple ds,.int i=>rP ds i
 | .str z,.int i=>if z.length<=100000 then (rP z.cps.toList i).map fun c=>.str ⟨#[c]⟩ else none
 | _,_=>none
theorem cy.rP {K:PySem.W.Frag} {H:Hp} {xs:List V} {ds:List D} {i:Int} {d:D} (h:cy K H xs ds) (e:rP ds i=some d):∃ v,L2.rP xs i=some v /\ HD K H v d:=by
 unfold L2.rP at e ⊢
 obtain ⟨j,e1,e2⟩:=bind1 e
 rw [h.len,e1]
 obtain ⟨x,hx,q⟩:=h.get e2
 exact ⟨x,hx,q⟩
set_option tactic.hygienic true in
theorem Jh {K:PySem.W.Frag}:ik K (UG K) c8:=by
 intro A H x y dx dy d Q al hx hy e q
 unfold c8 at e
 split at e
 ·obtain ⟨l,xs,rfl,h1,h2⟩:=hx.list
  obtain ⟨v,e1,e2⟩:=h2.rP e
  exact .inl ⟨l,xs,_,v,rfl,hy.int,h1.sq,e1,q _ H (az.refl H) e2⟩
 ·obtain ⟨l,xs,rfl,h1,h2⟩:=hx.tuple
  obtain ⟨v,e1,e2⟩:=h2.rP e
  exact .inr (.inl ⟨l,xs,_,v,rfl,hy.int,h1,e1,q _ H (az.refl H) e2⟩)
 ·split at e
  ·rename_i z i hz
   cases ec:L2.rP z.cps.toList i with
   | none=>rw [ec] at e; cases e
   | some c=>
     rw [ec] at e; cases e
     exact .inr (.inr ⟨z,i,c,hx.str,hy.int,small hz,ec,q _ H (az.refl H) (.str _)⟩)
  ·cases e
 ·cases e
section
variable {X:Cx} {O:List Nat} {a b:Expr} {ga gb:DS->Option D} {pos:Pos}
theorem aT (ha:PE X a (g0 X.K O ga)) (hb:PE X b (g0 X.K O gb)) (hs:yG b:=by exact fun _ _=>rfl):PE X (.Subscript a b pos) (tE X.K O (g2 c8 ga gb)):=(LM IH ha hb hs).mono fun _ _ _=>yP Jh
end
def g1 (f:D->Option D) (a:DS->Option D):DS->Option D:=fun δ=>(a δ).bind f
def Af:D->Option D
 | .int a=>some (.int (-a))
 | _=>none
section
variable {X:Cx} {O:List Nat} {a b c:Expr} {ga gb:DS->Option D} {pos:Pos}
theorem r9 (ha:PE X a (g0 X.K O ga)):PE X (.UnaryOp .USub a pos) (tE X.K O (g1 Af ga)):=(LB Iy ha).mono fun σ H Q hh=>hh.e fun U A0 δ d R ed q=>by
 obtain ⟨x,e1,e2⟩:=bind1 ed
 cases x with
 | int i=>cases e2; exact ⟨U,A0,δ,_,R,e1,fun v H' s h=>⟨i,h.int,q _ H' s (.int _)⟩⟩
 | _=>cases e2
def yS (a b:DS->Option D):DS->Option D:=fun δ=>(gB a δ).bind fun x=>if x=true then b δ else some (.bool false)
theorem Fp {g:DS->Option D} {δ:DS} {b:Bool} (h:gB g δ=some b):g δ=some (.bool b):=by
 obtain ⟨d,e1,e2⟩:=bind1 h
 cases d with
 | bool c=>cases e2; exact e1
 | _=>cases e2
theorem Ji {rest:List Expr} (ha:PE X a (tE X.K O ga)) (hb:PE X (.BoolOp .And (b :: rest) pos) (tE X.K O gb)):PE X (.BoolOp .And (a :: b :: rest) pos) (tE X.K O (yS ga gb)):=(Im ha hb).mono fun σ H Q hh=>hh.e fun U A0 δ d R ed q=>by
 obtain ⟨x,e1,e2⟩:=bind1 ed
 refine ⟨U,A0,δ,_,R,Fp e1,fun v H' s h=>?_⟩
 cases h
 refine ⟨x,rfl,?_⟩
 cases x with
 | true=>rw [if_pos rfl] at e2 ⊢; exact ⟨U,A0,δ,d,R.same s,e2,fun v H2 s2 h2=>q v H2 (s.trans s2) h2⟩
 | false=>rw [if_neg Bool.false_ne_true] at e2 ⊢; cases e2; exact q _ H' s (.bl _)
def lG (a b:DS->Option Bool):DS->Option Bool:=fun δ=>(a δ).bind fun x=>if x=true then b δ else some false
def Bo (a b:DS->Option Bool):DS->Option Bool:=fun δ=>(a δ).bind fun x=>if x=true then some true else b δ
def sd (a:DS->Option Bool):DS->Option Bool:=fun δ=>(a δ).map fun x=> !x
variable {ta tb:DS->Option Bool} {rest:List Expr}
theorem se (ha:PT X a (tT X.K O ta)) (hb:PW X (.BoolOp .And (b :: rest) pos) (tT X.K O tb)):PW X (.BoolOp .And (a :: b :: rest) pos) (tT X.K O (lG ta tb)):=(pw_and ha hb).mono fun σ H Q hh=>hh.e fun U A0 δ d R ed q=>by
 obtain ⟨x,e1,e2⟩:=bind1 ed
 refine ⟨U,A0,δ,_,R,e1,fun H' s=>?_⟩
 cases x with
 | true=>rw [if_pos rfl] at e2 ⊢; exact ⟨U,A0,δ,d,R.same s,e2,fun H2 s2=>q H2 (s.trans s2)⟩
 | false=>rw [if_neg Bool.false_ne_true] at e2 ⊢; cases e2; exact q H' s
theorem sf (ha:PT X a (tT X.K O ta)) (hb:PW X (.BoolOp .Or (b :: rest) pos) (tT X.K O tb)):PW X (.BoolOp .Or (a :: b :: rest) pos) (tT X.K O (Bo ta tb)):=(pw_or ha hb).mono fun σ H Q hh=>hh.e fun U A0 δ d R ed q=>by
 obtain ⟨x,e1,e2⟩:=bind1 ed
 refine ⟨U,A0,δ,_,R,e1,fun H' s=>?_⟩
 cases x with
 | true=>rw [if_pos rfl] at e2 ⊢; cases e2; exact q H' s
 | false=>rw [if_neg Bool.false_ne_true] at e2 ⊢; exact ⟨U,A0,δ,d,R.same s,e2,fun H2 s2=>q H2 (s.trans s2)⟩
theorem nU (ha:PT X a (tT X.K O ta)):PT X (.UnaryOp .Not a pos) (tT X.K O (sd ta)):=(Ik ha).mono fun σ H Q hh=>hh.e fun U A0 δ d R ed q=>by
 unfold sd at ed
 cases e:ta δ with
 | none=>rw [e] at ed; cases ed
 | some x=>rw [e] at ed; cases ed; exact ⟨U,A0,δ,x,R,e,fun H' s=>q H' s⟩
def OM:D->Option Bool
 | .none=>some false
 | .bool b=>some b
 | .int i=>some (i != 0)
 | .str x=>if x.length<=100000 then some ((x.length:Int) != 0) else none
 | .list l=>some (!l.isEmpty)
 | .tuple l=>some (!l.isEmpty)
 | _=>none
def nM (g:DS->Option D):DS->Option Bool:=fun δ=>(g δ).bind OM
theorem oQ {K:PySem.W.Frag} {H:Hp} {xs:List V} {ds:List D} (h:cy K H xs ds):xs.isEmpty=ds.isEmpty:=by cases h <;> rfl
theorem iC (ha:PE X a (g0 X.K O ga)) (he:∀ whole,isTrue a X.env whole=(do let v <- whole; standAt a.pos; holding [v] (truthy v)):=by exact fun _=>rfl):PT X a (tT X.K O (nM ga)):=(BK ha he).mono fun σ H Q hh=>hh.e fun U A0 δ k R ed q=>by
 obtain ⟨d,e1,e2⟩:=bind1 ed
 refine ⟨U,A0,δ,d,R,e1,fun v H' s h=>⟨k,?_,q H' s⟩⟩
 cases d with
 | none=>cases e2; rw [h.gU]; exact rfl
 | bool b=>cases e2; rw [h.bool]; exact rfl
 | int i=>cases e2; rw [h.int]; exact rfl
 | str x=>
   rw [h.str]
   have e3:(if x.length<=100000 then some ((x.length:Int) != 0) else none)=some k:=e2
   split at e3
   ·cases e3; exact ⟨small (by assumption),rfl⟩
   ·cases e3
 | list l=>
   cases e2
   obtain ⟨p,xs,rfl,h1,h2⟩:=h.list
   exact .inl ⟨xs,h1.sq,by rw [oQ h2]⟩
 | tuple l=>
   cases e2
   obtain ⟨p,xs,rfl,h1,h2⟩:=h.tuple
   exact .inr (.inl ⟨xs,h1,by rw [oQ h2]⟩)
 | dict _=>cases e2
end
def ah:DS->Option (List D):=fun _=>some []
def aa (a:DS->Option D) (r:DS->Option (List D)):DS->Option (List D):=fun δ=>(a δ).bind fun x=>(r δ).bind fun xs=>some (x :: xs)
def aM (r:DS->Option (List D)):DS->Option D:=fun δ=>(r δ).bind fun xs=>if xs.length<=100000 then some (.tuple xs) else none
def cN (r:DS->Option (List D)):DS->Option (List D):=fun δ=>(r δ).bind fun xs=>if xs.length<=100000 then some xs else none
section
variable {X:Cx} {O:List Nat} {e:Expr} {es:List Expr} {ga:DS->Option D} {gr:DS->Option (List D)} {pos:Pos}
theorem ak:PA X [] (oO X.K O ah):=df.mono fun σ H Q hh=>hh.e fun U A0 δ d R ed q=>by cases ed; exact q [] H (az.refl H) .nil
theorem ae (ha:PE X e (tE X.K O ga)) (hr:PA X es (oO X.K O gr)) (hs:starEach (e :: es) X.env=(false,eval e X.env) :: starEach es X.env:=by rfl):PA X (e :: es) (oO X.K O (aa ga gr)):=(bU ha hr hs).mono fun σ H Q hh=>hh.e fun U A0 δ ds R ed q=>by
 obtain ⟨x,xs,e1,e2,e3⟩:=yO ed
 cases e3
 exact ⟨U,A0,δ,x,R,e1,fun v H1 s1 h1=>⟨U,A0,δ,xs,R.same s1,e2,fun vs H2 s2 h2=>q _ H2 (s1.trans s2) (.cons (h1.same (cq s2)) h2)⟩⟩
theorem aN:PA X [] (qt X.K O ah):=df.mono fun σ H Q hh=>hh.e fun U A0 δ d R ed q=>by cases ed; exact q [] H (az.refl H) .nil
theorem aB (ha:PE X e (g0 X.K O ga)) (hr:PA X es (qt X.K O gr)) (hs:starEach (e :: es) X.env=(false,eval e X.env) :: starEach es X.env:=by rfl):PA X (e :: es) (qt X.K O (aa ga gr)):=(bU ha hr hs).mono fun σ H Q hh=>hh.e fun U A0 δ ds R ed q=>by
 obtain ⟨x,xs,e1,e2,e3⟩:=yO ed
 cases e3
 exact ⟨U,A0,δ,x,R,e1,fun v H1 s1 h1=>⟨U,A0,δ,xs,R.same s1,e2,fun vs H2 s2 h2=>q _ H2 (s1.trans s2) (.cons (h1.same s2) h2)⟩⟩
set_option tactic.hygienic true in
theorem bh {x1} (h:PA X es (oO X.K O gr)):PE X (.Tuple es x1 pos) (tE X.K O (aM gr)):=(IA h).mono fun σ H Q hh=>hh.e fun U A0 δ d R ed q=>by
 obtain ⟨xs,e1,e2⟩:=bind1 ed
 split at e2
 ·rename_i hz
  cases e2
  refine ⟨U,A0,δ,xs,R,e1,fun vs H' s h=>⟨by have:=h.len; exact small (by omega),fun p hp=>q _ _ (s.trans (bI hp _)) (HD.r8 (R.same s).al hp h)⟩⟩
 ·cases e2
set_option tactic.hygienic true in
theorem dz (h:PA X es (oO X.K O gr)):PE X (.List es pos) (tN X.K O (cN gr)):=(IB h).mono fun σ H Q hh=>hh.e fun U A0 δ d R ed q=>by
 obtain ⟨xs,e1,e2⟩:=bind1 ed
 split at e2
 ·rename_i hz
  cases e2
  refine ⟨U,A0,δ,d,R,e1,fun vs H' s h=>⟨by have:=h.len; exact small (by omega),fun p hp=>qX s q p vs hp h⟩⟩
 ·cases e2
end
def eK (K:PySem.W.Frag) (n:Nat) (G:List D->Option D):Sp:=fun vs H Q _=>vs.length=n /\ ∃ A ds d,Ls A H /\ cy K (wo H A) vs ds /\ G ds=some d /\ ∀ v H',az H H'->HD K (wo H' A) v d->Q v H'
def qu (K:PySem.W.Frag) (n:Nat) (G:List D->Option (List D)):Sp:=fun vs H Q _=>vs.length=n /\ ∃ A ds d,Ls A H /\ cy K (wo H A) vs ds /\ G ds=some d /\
 ∀ r ys H',az H H'->H r=none->H' r=some (.lst ys)->cy K (wo H' (r :: A)) ys d->Q (.ref r) H'
def aC (G:List D->Option D) (n:Nat) (g:DS->Option (List D)):DS->Option D:=fun δ=>(g δ).bind fun ds=>if ds.length=n then G ds else none
def cm (G:List D->Option (List D)) (n:Nat) (g:DS->Option (List D)):DS->Option (List D):=fun δ=>(g δ).bind fun ds=>if ds.length=n then G ds else none
section
variable {X:Cx} {O:List Nat} {e:Expr} {es:List Expr} {gr:DS->Option (List D)} {pos p:Pos} {n k kk:Nat} {x:Str} {ps:List Str}
set_option tactic.hygienic true in
theorem aS {G:List D->Option D} (F:Dn X.prog X.w X.K X.mg X.base k x ps (eK X.K n G)) (hr:dq kk X.A) (hk:k<=kk) (ha:PA X (e :: es) (oO X.K O gr)) (hg:Gl X x:=by rfl)
  (oC:(x == ("__debug__":Str))=false:=by decide) (he:starEach (e :: es) X.env=(false,eval e X.env) :: starEach es X.env:=by rfl) (js:(backTo pos (starEach es X.env)).any (·.1)=false:=by rfl):
  PE X (.Call (.Name x p) (e :: es) [] pos) (tE X.K O (aC G n gr)):=(Ho F hr hk ha hg oC he js).mono fun σ H Q hh=>hh.e fun U A0 δ d R ed q=>by
 obtain ⟨ds,e1,e2⟩:=bind1 ed
 split at e2
 ·rename_i hn
  refine ⟨U,A0,δ,ds,R,e1,fun vs H' s h=>?_⟩
  show eK X.K n G (vs ++ []) H' Q E0
  rw [List.append_nil]
  exact ⟨by rw [h.len]; exact hn,U ++ A0,ds,d,(R.same s).al,h,e2,fun v H2 s2 h2=>q v H2 (s.trans s2) h2⟩
 ·cases e2
set_option tactic.hygienic true in
theorem dA {G:List D->Option (List D)} (F:Dn X.prog X.w X.K X.mg X.base k x ps (qu X.K n G)) (hr:dq kk X.A) (hk:k<=kk) (ha:PA X (e :: es) (oO X.K O gr)) (hg:Gl X x:=by rfl)
  (oC:(x == ("__debug__":Str))=false:=by decide) (he:starEach (e :: es) X.env=(false,eval e X.env) :: starEach es X.env:=by rfl) (js:(backTo pos (starEach es X.env)).any (·.1)=false:=by rfl):
  PE X (.Call (.Name x p) (e :: es) [] pos) (tN X.K O (cm G n gr)):=(Ho F hr hk ha hg oC he js).mono fun σ H Q hh=>hh.e fun U A0 δ d R ed q=>by
 obtain ⟨ds,e1,e2⟩:=bind1 ed
 split at e2
 ·rename_i hn
  refine ⟨U,A0,δ,ds,R,e1,fun vs H' s h=>?_⟩
  show qu X.K n G (vs ++ []) H' Q E0
  rw [List.append_nil]
  exact ⟨by rw [h.len]; exact hn,U ++ A0,ds,d,(R.same s).al,h,e2,fun r ys H2 s2 h0 h1 h2=>q r ys H2 (s.trans s2) (s.free h0) h1 h2⟩
 ·cases e2
end
def qv (K:PySem.W.Frag) (r:List V->Hp->VK->Prop) (f:List D->Option D):Prop:=∀ (A:List Addr) (H:Hp) (vs:List V) (ds:List D) (d:D) (Q:VK),Ls A H->ux K A H vs ds->f ds=some d->(∀ v H',az H H'->HD K (wo H' A) v d->Q v H')->r vs H Q
def Cd (K:PySem.W.Frag) (r:List V->Hp->VK->Prop) (f:List D->Option (List D)):Prop:=∀ (A:List Addr) (H:Hp) (vs:List V) (ds:List D) (d:List D) (Q:VK),Ls A H->ux K A H vs ds->f ds=some d->
 (∀ p ys,H p=none->cy K (wo H A) ys d->Q (.ref p) (upd H p (.lst ys)))->r vs H Q
def eM (f:List D->Option D) (g:DS->Option (List D)):DS->Option D:=fun δ=>(g δ).bind f
def wM (f:List D->Option (List D)) (g:DS->Option (List D)):DS->Option (List D):=fun δ=>(g δ).bind f
section
variable {X:Cx} {O:List Nat} {e:Expr} {es:List Expr} {gr:DS->Option (List D)} {pos p:Pos} {x:Str} {r:List V->Hp->VK->Prop} {id T:String}
theorem HA {K:PySem.W.Frag} {f:List D->Option D} (imp:qv K r f) {σ:St} {H:Hp} {Q:VK}:tE K O (eM f gr) σ H Q->NF r (qt K O gr) σ H Q:=fun ⟨U,A0,δ,d,R,ed,q⟩=>by
 obtain ⟨ds,e1,e2⟩:=bind1 ed
 exact ⟨U,A0,δ,ds,R,e1,fun vs H' s h=>imp _ H' vs ds d Q (R.same s).al h e2 fun v H2 s2 h2=>q v H2 (s.trans s2) h2⟩
theorem Mg {K:PySem.W.Frag} {f:List D->Option (List D)} (imp:Cd K r f) {σ:St} {H:Hp} {Q:VK}:tN K O (wM f gr) σ H Q->NF r (qt K O gr) σ H Q:=fun ⟨U,A0,δ,d,R,ed,q⟩=>by
 obtain ⟨ds,e1,e2⟩:=bind1 ed
 exact ⟨U,A0,δ,ds,R,e1,fun vs H' s h=>imp _ H' vs ds d Q (R.same s).al h e2 (qX s q)⟩
theorem aW {f:List D->Option D} (hc:dU X (.builtin id) r) (imp:qv X.K r f) (hg:Gl X x) (hm:X.mg x=none) (hv:bootBuiltins x=some (.builtin id)) (ha:PA X (e :: es) (qt X.K O gr)) (hn:x≠"__name__":=by decide) (oC:(x == ("__debug__":Str))=false:=by decide)
  (he:starEach (e :: es) X.env=(false,eval e X.env) :: starEach es X.env:=by rfl) (js:(backTo pos (starEach es X.env)).any (·.1)=false:=by rfl):PE X (.Call (.Name x p) (e :: es) [] pos) (tE X.K O (eM f gr)):=
 (oD hc hg hm hv ha hn oC he js).mono fun _ _ _=>HA imp
theorem mE {f:List D->Option D} (hc:dU X (.type T) r) (imp:qv X.K r f) (hg:Gl X x) (hm:X.mg x=none) (hv:bootBuiltins x=some (.type T)) (ha:PA X (e :: es) (qt X.K O gr)) (hn:x≠"__name__":=by decide) (oC:(x == ("__debug__":Str))=false:=by decide)
  (he:starEach (e :: es) X.env=(false,eval e X.env) :: starEach es X.env:=by rfl) (js:(backTo pos (starEach es X.env)).any (·.1)=false:=by rfl):PE X (.Call (.Name x p) (e :: es) [] pos) (tE X.K O (eM f gr)):=
 (my hc hg hm hv ha hn oC he js).mono fun _ _ _=>HA imp
theorem oR {f:List D->Option (List D)} (hc:dU X (.type T) r) (imp:Cd X.K r f) (hg:Gl X x) (hm:X.mg x=none) (hv:bootBuiltins x=some (.type T)) (ha:PA X (e :: es) (qt X.K O gr)) (hn:x≠"__name__":=by decide) (oC:(x == ("__debug__":Str))=false:=by decide)
  (he:starEach (e :: es) X.env=(false,eval e X.env) :: starEach es X.env:=by rfl) (js:(backTo pos (starEach es X.env)).any (·.1)=false:=by rfl):PE X (.Call (.Name x p) (e :: es) [] pos) (tN X.K O (wM f gr)):=
 (my hc hg hm hv ha hn oC he js).mono fun _ _ _=>Mg imp
end
theorem EG {K:PySem.W.Frag} {A:List Addr} {H:Hp} {vs:List V} {d:D} (h:ux K A H vs [d]):∃ v,vs=[v] /\ gg K A H v d:=by
 unfold ux at h
 cases h with
 | cons a t=>cases t; exact ⟨_,rfl,a⟩
theorem UN {K:PySem.W.Frag} {A:List Addr} {H:Hp} {vs:List V} {d e:D} (h:ux K A H vs [d,e]):∃ v u,vs=[v,u] /\ gg K A H v d /\ gg K A H u e:=by
 unfold ux at h
 cases h with
 | cons a t=>cases t with
   | cons b t=>cases t; exact ⟨_,_,rfl,a,b⟩
def dj:List D->Option D
 | [.list l]=>some (.int l.length)
 | [.tuple l]=>some (.int l.length)
 | [.str z]=>if z.length<=100000 then some (.int z.length) else none
 | _=>none
theorem bC {X:Cx}:dU X (.builtin "len") (fun xs H Q=>(∃ p ys,xs=[.ref p] /\ (fY X.K H p ys \/ jk X.K H p ys) /\ Q (.int ys.length) H) \/ ∃ z,xs=[.str z] /\ z.length<=sizeLine /\ Q (.int z.length) H):=rT.or rV
theorem cu {K:PySem.W.Frag}:qv K (fun xs H Q=>(∃ p ys,xs=[.ref p] /\ (fY K H p ys \/ jk K H p ys) /\ Q (.int ys.length) H) \/ ∃ z,xs=[.str z] /\ z.length<=sizeLine /\ Q (.int z.length) H) dj:=by
 intro A H vs ds d Q al h e q
 unfold dj at e
 split at e
 ·cases e
  obtain ⟨v,rfl,h1⟩:=EG h
  clear h
  have h:=h1
  obtain ⟨p,xs,rfl,h1,h2⟩:=h.list
  refine .inl ⟨p,xs,rfl,.inl h1.sq,?_⟩
  rw [h2.len]
  exact q _ H (az.refl H) (.int _)
 ·cases e
  obtain ⟨v,rfl,h1⟩:=EG h
  clear h
  have h:=h1
  obtain ⟨p,xs,rfl,h1,h2⟩:=h.tuple
  refine .inl ⟨p,xs,rfl,.inr h1,?_⟩
  rw [h2.len]
  exact q _ H (az.refl H) (.int _)
 ·split at e
  ·cases e
   obtain ⟨v,rfl,h1⟩:=EG h
   exact .inr ⟨_,by rw [h1.str],small (by assumption),q _ H (az.refl H) (.int _)⟩
  ·cases e
 ·cases e
def oS:List D->Option D
 | [.int i]=>some (.int (if i < 0 then -i else i))
 | _=>none
theorem lH {K:PySem.W.Frag}:qv K (fun xs H Q=>∃ i,xs=[.int i] /\ Q (.int (if i < 0 then -i else i)) H) oS:=by
 intro A H vs ds d Q al h e q
 unfold oS at e
 split at e
 ·cases e
  obtain ⟨v,rfl,h1⟩:=EG h
  clear h
  have h:=h1
  exact ⟨_,by rw [h.int],q _ H (az.refl H) (.int _)⟩
 ·cases e
def qZ:List D->Option D
 | [.int i,.int j]=>some (.int (if j > i then j else i))
 | _=>none
def yT:List D->Option D
 | [.int i,.int j]=>some (.int (if j < i then j else i))
 | _=>none
theorem yU {K:PySem.W.Frag}:qv K (fun xs H Q=>∃ i j,xs=[.int i,.int j] /\ Q (.int (if j > i then j else i)) H) qZ:=by
 intro A H vs ds d Q al h e q
 unfold qZ at e
 split at e
 ·cases e
  obtain ⟨v,u,rfl,h1,h'⟩:=UN h
  clear h
  have h:=h1
  exact ⟨_,_,by rw [h.int,h'.int],q _ H (az.refl H) (.int _)⟩
 ·cases e
theorem Fq {K:PySem.W.Frag}:qv K (fun xs H Q=>∃ i j,xs=[.int i,.int j] /\ Q (.int (if j < i then j else i)) H) yT:=by
 intro A H vs ds d Q al h e q
 unfold yT at e
 split at e
 ·cases e
  obtain ⟨v,u,rfl,h1,h'⟩:=UN h
  clear h
  have h:=h1
  exact ⟨_,_,by rw [h.int,h'.int],q _ H (az.refl H) (.int _)⟩
 ·cases e
def Fs:List D->Option D
 | [.int i]=>some (.int i)
 | [.bool k]=>some (.int (if k then 1 else 0))
 | _=>none
theorem Ft {K:PySem.W.Frag}:qv K (fun xs H Q=>(∃ i,xs=[.int i] /\ Q (.int i) H) \/ ∃ k,xs=[.bl k] /\ Q (.int (if k then 1 else 0)) H) Fs:=by
 intro A H vs ds d Q al h e q
 unfold Fs at e
 split at e
 ·cases e
  obtain ⟨v,rfl,h1⟩:=EG h
  clear h
  have h:=h1
  exact .inl ⟨_,by rw [h.int],q _ H (az.refl H) (.int _)⟩
 ·cases e
  obtain ⟨v,rfl,h1⟩:=EG h
  clear h
  have h:=h1
  exact .inr ⟨_,by rw [h.bool],q _ H (az.refl H) (.int _)⟩
 ·cases e
def mF:List D->Option (List D)
 | [.list l]=>some l
 | [.tuple l]=>some l
 | _=>none
theorem uy {K:PySem.W.Frag}:Cd K (fun xs H Q=>∃ p ys,xs=[.ref p] /\ (fY K H p ys \/ jk K H p ys) /\ ∀ l,H l=none->Q (.ref l) (upd H l (.lst ys))) mF:=by
 intro A H vs ds d Q al h e q
 unfold mF at e
 split at e
 ·cases e
  obtain ⟨v,rfl,h1⟩:=EG h
  clear h
  have h:=h1
  obtain ⟨p,xs,rfl,h1,h2⟩:=h.list
  exact ⟨p,xs,rfl,.inl h1.sq,fun l hl=>q l xs hl h2⟩
 ·cases e
  obtain ⟨v,rfl,h1⟩:=EG h
  clear h
  have h:=h1
  obtain ⟨p,xs,rfl,h1,h2⟩:=h.tuple
  exact ⟨p,xs,rfl,.inr h1,fun l hl=>q l xs hl h2⟩
 ·cases e
def lI:List D->Option D
 | [.list l]=>some (.tuple l)
 | [.tuple l]=>some (.tuple l)
 | _=>none
theorem ra {K:PySem.W.Frag}:qv K (fun xs H Q=>∃ p ys,xs=[.ref p] /\ ((fY K H p ys /\ ∀ l,H l=none->Q (.ref l) (upd H l (.tup ys))) \/ (jk K H p ys /\ Q (.ref p) H))) lI:=by
 intro A H vs ds d Q al h e q
 unfold lI at e
 split at e
 ·cases e
  obtain ⟨v,rfl,h1⟩:=EG h
  clear h
  have h:=h1
  obtain ⟨p,xs,rfl,h1,h2⟩:=h.list
  exact ⟨p,xs,rfl,.inl ⟨h1.sq,fun l hl=>q _ _ (bI hl _) (HD.r8 al hl h2)⟩⟩
 ·cases e
  obtain ⟨v,rfl,h1⟩:=EG h
  clear h
  have h:=h1
  have h':=h.fz
  obtain ⟨p,xs,rfl,h1,h2⟩:=h.tuple
  exact ⟨p,xs,rfl,.inr ⟨h1,q _ H (az.refl H) h'⟩⟩
 ·cases e
section
variable {X:Cx} {O:List Nat} {e:Expr} {ga:DS->Option D} {pos p p2:Pos}
end
def gI (g:DS->Option D):DS->Option (Option Int):=fun δ=>(g δ).bind fun | .int i=>some (some i) | _=>none
def Mh (K:PySem.W.Frag) (O:List Nat) (g:DS->Option (Option Int)):TO:=fun σ H Q=>∃ U A0 δ d,Rel K O U A0 σ δ H /\ g δ=some d /\ ∀ H',az H H'->Q d H'
theorem Mh.e {K:PySem.W.Frag} {O:List Nat} {g:DS->Option (Option Int)}  {σ:_} {H:_} {Q:_} {GG:Prop} (hh:Mh K O g σ H Q) (kk:∀ U A0 δ d,(Rel K O U A0 σ δ H)->(g δ=some d)->(∀ H',az H H'->Q d H')->GG):GG:=by obtain ⟨U,A0,δ,d,x0,x1,x2⟩:=hh; exact kk U A0 δ d x0 x1 x2
def cutD (xs:List D) (lo hi:Option Int):List D:=(xs.drop (HT.qb xs.length 0 lo)).take (HT.qb xs.length xs.length hi - HT.qb xs.length 0 lo)
def wN (a:DS->Option D) (lo hi:DS->Option (Option Int)):DS->Option (List D):=fun δ=>(a δ).bind fun x=>(lo δ).bind fun l=>(hi δ).bind fun h=>match x with
 | .list ds=>some (cutD ds l h)
 | _=>none
section
variable {X:Cx} {O:List Nat} {e:Expr} {lo hi:Option Expr} {ga:DS->Option D} {gl gh:DS->Option (Option Int)} {pos p2:Pos}
theorem lJ (h:PE X e (g0 X.K O ga)):PO X (some e) (Mh X.K O (gI ga)):=(E5 h).mono fun σ H Q hh=>hh.e fun U A0 δ d R ed q=>by
 obtain ⟨x,e1,e2⟩:=bind1 ed
 cases x with
 | int i=>cases e2; exact ⟨U,A0,δ,_,R,e1,fun v H' s h=>⟨i,h.int,q H' s⟩⟩
 | _=>cases e2
theorem Ce (ha:PE X e (g0 X.K O ga)) (hl:PO X lo (Mh X.K O gl)) (hh:PO X hi (Mh X.K O gh)):PE X (.Subscript e (.Slice lo hi none p2) pos) (tN X.K O (wN ga gl gh)):=(BN Fb ha hl hh).mono fun σ H Q hh=>hh.e fun U A0 δ d R ed q=>by
 obtain ⟨x,e1,e2⟩:=bind1 ed
 obtain ⟨l,e3,e4⟩:=bind1 e2
 obtain ⟨h,e5,e6⟩:=bind1 e4
 cases x with
 | list ds=>
   cases e6
   refine ⟨U,A0,δ,_,R,e1,fun v H1 s1 h1=>⟨U,A0,δ,l,R.same s1,e3,fun H2 s2=>⟨U,A0,δ,h,R.same (s1.trans s2),e5,fun H3 s3=>?_⟩⟩⟩
   obtain ⟨p,xs,rfl,r1,r2⟩:=(h1.same (s2.trans s3)).list
   refine ⟨p,xs,rfl,r1.sq,fun r hr=>qX ((s1.trans s2).trans s3) q r _ hr ?_⟩
   unfold BO cutD
   rw [r2.len]
   exact (r2.Ht _).Hs _
 | _=>cases e6
end
def aA (a b:DS->Option Res):DS->Option Res:=fun δ=>(a δ).bind fun | .nx δ'=>b δ' | r=>some r
def bW:DS->Option Res:=fun δ=>some (.nx δ)
def iy (c:DS->Option Bool) (a b:DS->Option Res):DS->Option Res:=fun δ=>(c δ).bind fun x=>if x=true then a δ else b δ
def aR (i:Nat) (g:DS->Option D):DS->Option Res:=fun δ=>(g δ).bind fun d=>some (.nx (δ.set i (some d)))
def ki (i:Nat) (g:DS->Option (List D)):DS->Option Res:=fun δ=>(g δ).bind fun d=>some (.nx (δ.set i (some (.list d))))
def bZ (g:DS->Option D):DS->Option Res:=fun δ=>(g δ).bind fun d=>some (.rt d)
section
variable {X:Cx} {O:List Nat} {fr:Fr} {xk:Str->Hp->Prop} {st:Stmt} {rest a b:List Stmt} {ga gb:DS->Option Res} {gc:DS->Option Bool} {ge:DS->Option D} {gl:DS->Option (List D)} {e c:Expr} {pos:Pos}
theorem ar (h1:PS X st (tS X.K O fr ga)) (h2:ji X rest (tS X.K O fr gb)):ji X (st :: rest) (tS X.K O fr (aA ga gb)):=(om h1 h2).mono fun E σ H hh=>hh.e fun H0 U A0 δ r R F ed P=>by
 obtain ⟨r1,e1,e2⟩:=bind1 ed
 cases r1 with
 | nx δ'=>exact ⟨H0,U,A0,δ,.nx δ',R,F,e1,fun U' bM H' R' F'=>⟨H0,U',A0,δ',r,R',F',e2,P⟩⟩
 | rt d=>cases e2; exact ⟨H0,U,A0,δ,_,R,F,e1,P⟩
 | bk d=>cases e2; exact ⟨H0,U,A0,δ,_,R,F,e1,P⟩
 | ct d=>cases e2; exact ⟨H0,U,A0,δ,_,R,F,e1,P⟩
theorem av (h1:PS X st (tS X.K O fr ga)):ji X [st] (tS X.K O fr ga):=rN h1
theorem cH:ji X [] (tS X.K O fr bW):=EU.mono fun E σ H hh=>hh.e fun H0 U A0 δ r R F ed P=>by cases ed; exact P U σ H R F
theorem Fu:PS X (.Continue pos) (tS X.K O fr fun δ=>some (.ct δ)):=ua.mono fun E σ H hh=>hh.e fun H0 U A0 δ r R F ed P=>by cases ed; exact P U σ H R F
theorem oU:PS X st (tS X.K O fr fun _=>none):=By.mono fun E σ H hh=>hh.e fun H0 U A0 δ r R F ed P=>by cases ed
theorem Ag:ji X rest (tS X.K O fr fun _=>none):=zR.mono fun E σ H hh=>hh.e fun H0 U A0 δ r R F ed P=>by cases ed
theorem dX (hc:PT X c (tT X.K O gc)) (ha:ji X a (tS X.K O fr ga)) (hb:ji X b (tS X.K O fr gb)):PS X (.If c a b pos) (tS X.K O fr (iy gc ga gb)):=(Lr hc ha hb).mono fun E σ H hh=>hh.e fun H0 U A0 δ r R F ed P=>by
 obtain ⟨x,e1,e2⟩:=bind1 ed
 refine ⟨U,A0,δ,x,R,e1,fun H' s=>?_⟩
 cases x with
 | true=>rw [if_pos rfl] at e2 ⊢; exact ⟨H0,U,A0,δ,r,R.same s,F.grow s,e2,P⟩
 | false=>rw [if_neg Bool.false_ne_true] at e2 ⊢; exact ⟨H0,U,A0,δ,r,R.same s,F.grow s,e2,P⟩
theorem ax {i:Nat} (h:PS X st (mq (tE X.K O ge) (eX i))) (hi:i∉O:=by decide):PS X st (tS X.K O fr (aR i ge)):=h.mono fun E σ H hh=>hh.e fun H0 U A0 δ r R F ed P=>by
 obtain ⟨d,e1,e2⟩:=bind1 ed
 cases e2
 exact ⟨U,A0,δ,d,R,e1,fun v H' s hv=>P U _ H' ((R.same s).set hi hv) (F.grow s)⟩
theorem iV {i:Nat} (h:PS X st (mq (tN X.K O gl) (eX i))) (hi:i∈O:=by decide):PS X st (tS X.K O fr (ki i gl)):=h.mono fun E σ H hh=>hh.e fun H0 U A0 δ r R F ed P=>by
 obtain ⟨d,e1,e2⟩:=bind1 ed
 cases e2
 exact ⟨U,A0,δ,d,R,e1,fun r ys H' s hr h1 h2=>P (r :: U) _ H' (R.OJ s hr h1 h2 hi) (F.more s hr)⟩
theorem bV (h:PE X e (tE X.K O ge)):PS X (.Return (some e) pos) (tS X.K O (false,xk) (bZ ge)):=(oo h).mono fun E σ H hh=>hh.e fun H0 U A0 δ r R F ed P=>by
 obtain ⟨d,e1,e2⟩:=bind1 ed
 cases e2
 refine ⟨U,A0,δ,d,R,e1,fun v H' s hv=>P.1 v H' ?_⟩
 unfold iA
 rw [if_neg Bool.false_ne_true]
 exact ⟨F.same.trans s,hv.same (fR fun a ha=>List.mem_append_right _ ha)⟩
theorem nV (h:PE X e (tN X.K O gl)):PS X (.Return (some e) pos) (tS X.K O (true,xk) (bZ (aU gl))):=(oo h).mono fun E σ H hh=>hh.e fun H0 U A0 δ r R F ed P=>by
 obtain ⟨d,e1,e2⟩:=bind1 ed
 cases e2
 unfold aU at e1
 cases eg:gl δ with
 | none=>rw [eg] at e1; cases e1
 | some l=>
   rw [eg] at e1; cases e1
   refine ⟨U,A0,δ,l,R,eg,fun r ys H' s hr h1 h2=>P.1 (.ref r) H' ?_⟩
   unfold iA
   rw [if_pos rfl]
   refine ⟨r,_,rfl,F.same.trans s,F.same.free hr,h1,.lst (h2.same (fR fun a ha=>?_))⟩
   rcases List.mem_cons.mp ha with z | z
   ·subst z; simp
   ·exact List.mem_cons_of_mem _ (List.mem_append_right _ z)
theorem eB {i:Nat} (h:PE X e (qg i)) (hi:i∈O:=by decide):PS X (.Return (some e) pos) (tS X.K O fr (bZ (af i))):=(oo h).mono fun E σ H hh=>hh.e fun H0 U A0 δ r R F ed P=>by
 obtain ⟨d,e1,e2⟩:=bind1 ed
 cases e2
 obtain ⟨l,o,hl,hU,h1,h2⟩:=R.ow i d hi (join_some e1)
 refine ⟨.ref l,hl,P.1 (.ref l) H ?_⟩
 unfold iA
 split
 ·refine ⟨l,o,rfl,F.same,F.new l hU,h1,h2.same (fR fun a ha=>?_)⟩
  rcases List.mem_cons.mp ha with z | z
  ·subst z; exact List.mem_append_left _ hU
  ·exact List.mem_append_right _ z
 ·refine ⟨F.same,(h2.same (fR fun a ha=>List.mem_append_right _ ha)).hd ?_⟩
  rw [bp (F.out hU)]; exact h1
def Ah (i:Nat) (g:DS->Option D):DS->Option Res:=fun δ=>(af i δ).bind fun x=>(g δ).bind fun d=>match x with
 | .list ds=>if ds.length < 100000 then some (.nx (δ.set i (some (.list (ds ++ [d]))))) else none
 | _=>none
set_option tactic.hygienic true in
theorem mG {i:Nat} (h:PS X st (yB (NH X.K "list" rW (qg i) (yE (tE X.K O ge) EZ)))) (hi:i∈O:=by decide):PS X st (tS X.K O fr (Ah i ge)):=h.mono fun E σ H hh=>hh.e fun H0 U A0 δ r R F ed P=>by
 obtain ⟨x,e1,e2⟩:=bind1 ed
 obtain ⟨d,e3,e4⟩:=bind1 e2
 rcases R.UL i x hi (join_some e1) with ⟨l,ys,ds,hl,rfl,hU,h1,h2⟩ | ⟨kds,rfl⟩
 rotate_left
 ·(exfalso; simp_all; done)
 simp only at e4
 split at e4
 ·rename_i hz
  cases e4
  refine ⟨.ref l,hl,.inl ⟨rfl,ys,fY.of h1⟩,U,A0,δ,d,R,e3,fun v H' s hv=>?_⟩
  have Mi:=s _ _ h1
  have ON:=h2.same (cq (A:=U ++ A0) s)
  have hlen:=h2.len
  refine ⟨l,ys,v,rfl,rfl,Mi,rZ (by omega),?_⟩
  exact P U σ _ ((R.same s).put hi hl hU (ON.app (.cons hv .nil)) ⟨_,join_some e1⟩) ((F.grow s).put hU _)
 ·cases e4
end
def sg (c:DS->Option Bool) (b:DS->Option Res):Nat->DS->Option Res
 | 0,_=>none
 | n + 1,δ=>(c δ).bind fun x=>if x=true then (b δ).bind (fun | .nx δ'=>sg c b n δ' | .ct δ'=>sg c b n δ' | .bk δ'=>some (.nx δ') | .rt d=>some (.rt d)) else some (.nx δ)
theorem wO {c:DS->Option Bool} {b:DS->Option Res}:∀ {n:Nat} {δ:DS} {r:Res},sg c b n δ=some r->sg c b (n + 1) δ=some r
 | 0,_,_,h=>by cases h
 | n + 1,δ,r,h=>by
   rw [sg] at h ⊢
   obtain ⟨x,e1,e2⟩:=bind1 h
   rw [e1,Option.bind_some]
   cases x with
   | false=>exact e2
   | true=>
     rw [if_pos rfl] at e2 ⊢
     obtain ⟨q,e3,e4⟩:=bind1 e2
     rw [e3,Option.bind_some]
     cases q with
     | nx δ'=>exact wO e4
     | ct δ'=>exact wO e4
     | bk _=>exact e4
     | rt _=>exact e4
theorem Cf {c:DS->Option Bool} {b:DS->Option Res} {n m:Nat} {δ:DS} {r:Res} (h:sg c b n δ=some r) (hm:n<=m):sg c b m δ=some r:=by
 induction hm with
 | refl=>exact h
 | step _ ih=>exact wO ih
open Classical in
def gJ (c:DS->Option Bool) (b:DS->Option Res):DS->Option Res:=fun δ=>if h:∃ p:Nat×Res,sg c b p.1 δ=some p.2 then some (choose h).2 else none
set_option tactic.hygienic true in
theorem uz {c:DS->Option Bool} {b:DS->Option Res} {δ:DS} {r:Res} (h:gJ c b δ=some r):∃ n,sg c b n δ=some r:=by
 unfold gJ at h
 split at h
 ·rename_i hp
  cases h
  exact ⟨_,Classical.choose_spec hp⟩
 ·cases h
theorem Ai {c:DS->Option Bool} {b:DS->Option Res} {n:Nat} {δ:DS} {r:Res} (h:sg c b n δ=some r):gJ c b δ=some r:=by
 have hp:∃ p:Nat×Res,sg c b p.1 δ=some p.2:=⟨(n,r),h⟩
 unfold gJ
 rw [dif_pos hp]
 have h2:=Classical.choose_spec hp
 have a1:=Cf h (Nat.le_max_left n (Classical.choose hp).1)
 have a2:=Cf h2 (Nat.le_max_right n (Classical.choose hp).1)
 rw [a1] at a2
 exact a2.symm
theorem Aj {c:DS->Option Bool} {b:DS->Option Res} (W:Nat->DS->Prop) (r:DS->Res->Prop) (m:Nat) (δ:DS) (h:W m δ)
  (hs:∀ m δ,W m δ->(c δ=some false /\ r δ (.nx δ)) \/ (c δ=some true /\ ((∃ δ' m',(b δ=some (.nx δ') \/ b δ=some (.ct δ')) /\ m' < m /\ W m' δ' /\ ∀ q,r δ' q->r δ q) \/ (∃ δ',b δ=some (.bk δ') /\ r δ (.nx δ')) \/ ∃ d,b δ=some (.rt d) /\ r δ (.rt d)))):
  ∃ q,gJ c b δ=some q /\ r δ q:=by
 suffices hh:∀ k m δ,m < k->W m δ->∃ n q,sg c b n δ=some q /\ r δ q by
  obtain ⟨n,q,e,hq⟩:=hh (m + 1) m δ (Nat.lt_succ_self m) h
  exact ⟨q,Ai e,hq⟩
 intro k
 induction k with
 | zero=>intro m δ hm; omega
 | succ k ih=>
   intro m δ hm hW
   rcases hs m δ hW with ⟨hc,hr⟩ | ⟨hc,⟨δ',m',hb,g5,V2,imp⟩ | ⟨δ',hb,hr⟩ | ⟨d,hb,hr⟩⟩
   ·exact ⟨1,_,by rw [sg,hc]; rfl,hr⟩
   ·obtain ⟨n,q,e,hq⟩:=ih m' δ' (by omega) V2
    refine ⟨n + 1,q,?_,imp q hq⟩
    rw [sg,hc,Option.bind_some,if_pos rfl]
    rcases hb with hb | hb <;> rw [hb,Option.bind_some] <;> exact e
   ·exact ⟨1,_,by rw [sg,hc,Option.bind_some,if_pos rfl,hb]; rfl,hr⟩
   ·exact ⟨1,_,by rw [sg,hc,Option.bind_some,if_pos rfl,hb]; rfl,hr⟩
section
variable {X:Cx} {O:List Nat} {fr:Fr} {body:List Stmt} {gb:DS->Option Res} {gc:DS->Option Bool} {c:Expr} {pos:Pos}
theorem oV (hp:PassesOwn (model X.prog X.w) X.A X.env X.xe) (hc:PT X c (tT X.K O gc)) (hb:ji X body (tS X.K O fr gb)):PS X (.While c body [] pos) (tS X.K O fr (gJ gc gb)):=(BC hp hc hb).mono fun E σ H hh=>hh.e fun H0 U A0 δ r R F ed P=>by
 obtain ⟨n,en⟩:=uz ed
 refine ⟨fun m σ H=>∃ U δ,Rel X.K O U A0 σ δ H /\ Fx H0 A0 U H /\ sg gc gb m δ=some r,⟨n,U,δ,R,F,en⟩,?_⟩
 rintro m σ H ⟨U,δ,R,F,em⟩
 cases m with
 | zero=>cases em
 | succ m=>
   rw [sg] at em
   obtain ⟨x,e1,e2⟩:=bind1 em
   refine ⟨U,A0,δ,x,R,e1,fun H' s=>?_⟩
   cases x with
   | false=>rw [if_neg Bool.false_ne_true] at e2 ⊢; cases e2; exact P U σ H' (R.same s) (F.grow s)
   | true=>
     rw [if_pos rfl] at e2 ⊢
     obtain ⟨q,e3,e4⟩:=bind1 e2
     refine ⟨fun bM H'=>∃ m',m' < m + 1 /\ ∃ U δ,Rel X.K O U A0 bM δ H' /\ Fx H0 A0 U H' /\ sg gc gb m' δ=some r,fun _ _ h=>h,H0,U,A0,δ,q,R.same s,F.grow s,e3,?_⟩
     cases q with
     | nx δ'=>exact fun U' bM H' R' F'=>⟨m,Nat.lt_succ_self m,U',δ',R',F',e4⟩
     | ct δ'=>exact fun U' bM H' R' F'=>⟨m,Nat.lt_succ_self m,U',δ',R',F',e4⟩
     | bk δ'=>cases e4; exact P
     | rt d=>cases e4; exact P
end
def aE (i:Nat):D->DS->Option DS:=fun d δ=>some (δ.set i (some d))
def fU (n:Nat) (g:List D->DS->Option DS):D->DS->Option DS:=fun d δ=>match d with
 | .tuple ds=>if ds.length=n then g ds δ else none
 | _=>none
def gK:List D->DS->Option DS:=fun ds δ=>if ds=[] then some δ else none
def bJ (t:D->DS->Option DS) (u:List D->DS->Option DS):List D->DS->Option DS:=fun ds δ=>match ds with
 | d :: r=>(t d δ).bind fun δ'=>u r δ'
 | []=>none
def KU (K:PySem.W.Frag) (O:List Nat) (g:List D->DS->Option DS):EV:=fun vs σ H Q=>∃ U A0 δ ds δ',Rel K O U A0 σ δ H /\ cy K (wo H (U ++ A0)) vs ds /\ g ds δ=some δ' /\ ∀ bM,Rel K O U A0 bM δ' H->Q bM H
theorem KU.e {K:PySem.W.Frag} {O:List Nat} {g:List D->DS->Option DS}  {vs:_} {σ:_} {H:_} {Q:_} {GG:Prop} (hh:KU K O g vs σ H Q) (kk:∀ U A0 δ ds δ',(Rel K O U A0 σ δ H)->(cy K (wo H (U ++ A0)) vs ds)->(g ds δ=some δ')->(∀ bM,Rel K O U A0 bM δ' H->Q bM H)->GG):GG:=by obtain ⟨U,A0,δ,ds,δ',x0,x1,x2,x3⟩:=hh; exact kk U A0 δ ds δ' x0 x1 x2 x3
section
variable {X:Cx} {O:List Nat} {e:Expr} {es:List Expr} {pos:Pos}
theorem Bz.mono {t t':EV} (h:Bz X es t) (m:∀ v σ H Q,t' v σ H Q->t v σ H Q):Bz X es t':=fun pins s σ H v u Q I r q=>h pins s σ H v u Q I r (m v σ H Q q)
theorem aH {i:Nat} (h:PG X e (eX i)) (hi:i∉O:=by decide):PG X e (tG X.K O (aE i)):=h.mono fun v σ H Q hh=>hh.e fun U A0 δ d δ' R hd e1 q=>by
 cases e1
 exact q _ (R.set hi hd)
set_option tactic.hygienic true in
theorem lK:Bz X [] (KU X.K O gK):=yC.mono fun vs σ H Q hh=>hh.e fun U A0 δ ds δ' R hd e1 q=>by
 unfold gK at e1
 split at e1
 ·rename_i hz
  cases e1
  subst hz
  cases hd
  exact ⟨rfl,q σ R⟩
 ·cases e1
theorem dY {t:D->DS->Option DS} {u:List D->DS->Option DS} (h1:PG X e (tG X.K O t)) (h2:Bz X es (KU X.K O u)) (hs:(assignEach (e :: es) X.env).map (·.2)=assign e X.env :: (assignEach es X.env).map (·.2):=by rfl):Bz X (e :: es) (KU X.K O (bJ t u)):=
 (oq h1 h2 hs).mono fun vs σ H Q hh=>hh.e fun U A0 δ ds δ' R hd e1 q=>by
  cases hd with
  | nil=>cases e1
  | cons hx hr=>
    obtain ⟨dZ,e2,e3⟩:=bind1 e1
    exact ⟨_,_,rfl,U,A0,δ,_,dZ,R,hx,e2,fun Ha R1=>⟨U,A0,dZ,_,δ',R1,hr,e3,q⟩⟩
set_option tactic.hygienic true in
theorem lL {n k:Nat} {t:List D->DS->Option DS} (hc:X.calm=true) (h:Bz X es (KU X.K O t)) (hn:(assignEach es X.env).length=n:=by rfl) (Hb:(assignEach es X.env).findIdx? (·.1)=none:=by rfl):PG X (.Tuple es k pos) (tG X.K O (fU n t)):=
 (BB hc h hn Hb).mono fun v σ H Q hh=>hh.e fun U A0 δ d δ' R hd e1 q=>by
  unfold fU at e1
  split at e1
  ·split at e1
   ·rename_i hz
    obtain ⟨a,xs,rfl,h1,h2⟩:=(gg.of hd).tuple
    exact ⟨a,xs,rfl,h1,by rw [h2.len]; exact hz,U,A0,δ,_,δ',R,h2,e1,q⟩
   ·cases e1
  ·cases e1
end
def ke (t:D->DS->Option DS) (b:DS->Option Res):List D->DS->Option Res
 | [],δ=>some (.nx δ)
 | d :: ds,δ=>(t d δ).bind fun dZ=>(b dZ).bind fun | .nx δ'=>ke t b ds δ' | .ct δ'=>ke t b ds δ' | .bk δ'=>some (.nx δ') | .rt d=>some (.rt d)
def fS (gi:DS->Option (List D)) (t:D->DS->Option DS) (b:DS->Option Res):DS->Option Res:=fun δ=>(gi δ).bind fun ds=>ke t b ds δ
theorem Fx.Mj {H0 H H':Hp} {A0 U:List Addr} (F:Fx H0 A0 U H) (s:az (wo H U) H'):az H0 H':=fun a o e=>s a o (by
 rw [bp fun z=>?_]
 ·exact F.same _ _ e
 ·rw [F.new a z] at e; cases e)
set_option tactic.hygienic true in
theorem iA.trans {K:PySem.W.Frag} {fr:Bool} {H0 H H':Hp} {A0 U:List Addr} {v:V} {d:D} (F:Fx H0 A0 U H) (h:iA K fr (wo H U) A0 v d H'):iA K fr H0 A0 v d H':=by
 have k:∀ a o,H0 a=some o->wo H U a=some o:=fun a o e=>by
  rw [bp fun z=>?_]
  ·exact F.same _ _ e
  ·rw [F.new a z] at e; cases e
 unfold iA at h ⊢
 split
 ·rename_i hf
  rw [if_pos hf] at h
  obtain ⟨r,ob,a,c,e,f,g⟩:=h
  refine ⟨r,ob,a,fun x o q=>c _ _ (k x o q),?_,f,g⟩
  cases q:H0 r with
  | none=>rfl
  | some o=>rw [k r o q] at e; cases e
 ·rename_i hf
  rw [if_neg hf] at h
  exact ⟨fun x o q=>h.1 _ _ (k x o q),h.2⟩
section
variable {X:Cx} {O:List Nat} {fr:Fr} {body:List Stmt} {gb:DS->Option Res} {gi:DS->Option (List D)} {tg iter:Expr} {gt:D->DS->Option DS} {pos:Pos}
theorem d3 (hp:PassesOwn (model X.prog X.w) X.A X.env X.xe) (hc:X.calm=true) (hi:PI X tg iter (tI X.K O gi)) (hg:PG X tg (tG X.K O gt)) (hb:ji X body (tS X.K O fr gb))
  (hs:∀ x,foldedSetIterable iter X.env x=pure x:=by intro _; rfl):PS X (.For tg iter body [] pos) (tS X.K O fr (fS gi gt gb)):=(BF hp hc hi hg hb hs).mono fun E σ H hh=>hh.e fun H0 U A0 δ r R F ed P=>by
 obtain ⟨ds,e1,e2⟩:=bind1 ed
 refine ⟨U,A0,δ,ds,R,e1,fun J H1 s hw=>?_⟩
 have F1:=F.grow s
 refine ⟨fun i m σ H=>m=ds.length - i /\ i<=ds.length /\ ∃ U2 δ,Rel X.K O U2 A0 σ δ H /\ Fx H0 A0 U2 H /\ Fx (wo H1 U) A0 U2 H /\ ke gt gb (ds.drop i) δ=some r,⟨ds.length,by simp,Nat.zero_le _,U,δ,R.same s,F1,F1.here,by simpa using e2⟩,?_⟩
 rintro i m σ H ⟨rfl,hle,U2,δ,R2,F2,G2,ef⟩
 obtain ⟨Jj,oW⟩:=hw (U2 ++ A0) i H G2.keeps R2.al
 by_cases g5:i < ds.length
 ·obtain ⟨d,hd⟩:∃ d,ds[i]?=some d:=⟨_,List.getElem?_eq_getElem g5⟩
  have Mk:ds.drop i=d :: ds.drop (i + 1):=by
   rw [List.drop_eq_getElem_cons g5]
   rw [List.getElem?_eq_getElem g5] at hd
   cases hd; rfl
  obtain ⟨go,hy⟩:=Jj d hd
  rw [Mk,ke] at ef
  obtain ⟨dZ,e3,e4⟩:=bind1 ef
  obtain ⟨q,e5,e6⟩:=bind1 e4
  refine .inr ⟨go,fun bM H'=>∃ m',m' < ds.length - i /\ (m'=ds.length - (i + 1) /\ i + 1<=ds.length /\ ∃ U2 δ,Rel X.K O U2 A0 bM δ H' /\ Fx H0 A0 U2 H' /\ Fx (wo H1 U) A0 U2 H' /\ ke gt gb (ds.drop (i + 1)) δ=some r),fun _ _ h=>h,fun x H2 y=>?_⟩
  obtain ⟨s2,hx⟩:=hy x H2 y
  refine ⟨U2,A0,δ,d,dZ,R2.same s2,hx,e3,fun bM R'=>?_⟩
  have F3:=F2.grow s2
  have G3:=G2.grow s2
  refine ⟨wo H2 U2,U2,A0,dZ,q,R',F3.here,e5,?_⟩
  cases q with
  | nx δ'=>exact fun U' bM H' R' F'=>⟨_,by omega,rfl,g5,U',δ',R',F3.trans F',G3.trans F',e6⟩
  | ct δ'=>exact fun U' bM H' R' F'=>⟨_,by omega,rfl,g5,U',δ',R',F3.trans F',G3.trans F',e6⟩
  | bk δ'=>cases e6; exact fun U' bM H' R' F'=>P U' bM H' R' (F3.trans F')
  | rt d=>cases e6; exact ⟨fun v H' h=>P.1 v H' (h.trans F3),fun c H' e s=>P.2 c H' e (F3.Mj s)⟩
 ·have hi:i=ds.length:=by omega
  subst hi
  rw [List.drop_length,ke] at ef
  cases ef
  exact .inl ⟨oW rfl,P U2 σ H R2 F2⟩
end
def fe (lo:Int) (n:Nat):List D:=(List.range n).map fun k:Nat=>PyData.int (lo + k)
theorem oX {lo:Int} {n i:Nat} {d:D} (h:(fe lo n)[i]?=some d):i < n /\ d=.int (lo + i):=by
 unfold fe at h
 rw [List.getElem?_map] at h
 cases e:(List.range n)[i]? with
 | none=>rw [e] at h; cases h
 | some k=>
   rw [e] at h; cases h
   have hi:=(List.getElem?_eq_some_iff.mp e).1
   rw [List.length_range] at hi
   rw [List.getElem?_range hi] at e
   cases e
   exact ⟨hi,rfl⟩
theorem oY {lo:Int} {n:Nat}:(fe lo n).length=n:=by unfold fe; simp
theorem nq {K:PySem.W.Frag} {A:List Addr} {H1:Hp} {lo:Int} {n:Nat}:Walks K A H1 (Lx lo n) (fe lo n):=by
 intro A' i H _ _
 refine ⟨fun d hd=>?_,fun hi=>?_⟩
 ·obtain ⟨hi,rfl⟩:=oX hd
  refine ⟨hi,fun x H2 y=>?_⟩
  obtain ⟨rfl,rfl⟩:=y
  exact ⟨az.refl _,.int _⟩
 ·rw [oY] at hi
  subst hi
  exact Nat.le_refl _
def eQ (g:DS->Option (List D)):DS->Option (List D):=fun δ=>(g δ).bind fun | [.int j]=>if -(2 ^ 62)<=j /\ j < 2 ^ 62 then some (fe 0 j.toNat) else none | _=>none
def nW (g:DS->Option (List D)):DS->Option (List D):=fun δ=>(g δ).bind fun | [.int i,.int j]=>if -(2 ^ 62)<=i /\ i < 2 ^ 62 /\ -(2 ^ 62)<=j /\ j < 2 ^ 62 then some (fe i (j - i).toNat) else none | _=>none
def aY (g:DS->Option D):DS->Option (List D):=fun δ=>(g δ).bind fun | .list l=>some l | .tuple l=>some l | _=>none
section
variable {X:Cx} {O:List Nat} {tg a b e:Expr} {gr:DS->Option (List D)} {ge:DS->Option D} {pos p:Pos}
set_option tactic.hygienic true in
theorem iD (hm:X.mg "range"=none) (ha:PA X [a] (oO X.K O gr)) (hg:Gl X "range":=by rfl) (hs:starEach [a] X.env=[(false,eval a X.env)]:=by rfl):PI X tg (.Call (.Name "range" p) [a] [] pos) (tI X.K O (eQ gr)):=(zU hg hm ha hs).mono fun σ H Q hh=>hh.e fun U A0 δ ds R ed q=>by
 obtain ⟨x,e1,e2⟩:=bind1 ed
 refine ⟨U,A0,δ,x,R,e1,fun vs H' s h=>?_⟩
 split at e2
 ·split at e2
  ·rename_i hz
   cases e2
   cases h with
   | cons h1 h2=>
     cases h2
     cases h1
     exact ⟨_,rfl,hz.1,hz.2,q _ H' s nq⟩
  ·cases e2
 ·cases e2
set_option tactic.hygienic true in
theorem Ak (hm:X.mg "range"=none) (ha:PA X [a,b] (oO X.K O gr)) (hg:Gl X "range":=by rfl) (hs:starEach [a,b] X.env=[(false,eval a X.env),(false,eval b X.env)]:=by rfl) (kb:starEach [b] X.env=[(false,eval b X.env)]:=by rfl):PI X tg (.Call (.Name "range" p) [a,b] [] pos) (tI X.K O (nW gr)):=(zV hg hm ha hs kb).mono fun σ H Q hh=>hh.e fun U A0 δ ds R ed q=>by
 obtain ⟨x,e1,e2⟩:=bind1 ed
 refine ⟨U,A0,δ,x,R,e1,fun vs H' s h=>?_⟩
 split at e2
 ·split at e2
  ·rename_i hz
   cases e2
   cases h with
   | cons h1 h2=>cases h2 with
     | cons h2 h3=>
       cases h3
       cases h1
       cases h2
       exact ⟨_,_,rfl,hz,q _ H' s nq⟩
  ·cases e2
 ·cases e2
def OO (K:PySem.W.Frag) (tl:TE):TI:=fun σ H R=>tl σ H fun x H1=>(∃ a,x=.ref a /\ (∃ xs,fY K H1 a xs) /\ R (Oq K a) H1) \/ ∃ a,x=.ref a /\ (∃ xs,jk K H1 a xs) /\ R (Uy K a) H1
theorem Cg {l:Expr} {tl:TE} (hl:PE X l tl):PI X tg l (OO X.K tl):=by
 intro pins s σ H R I h
 refine dh (hl pins s σ H _ I h) fun v s1 ⟨x,H1,I1,r1,q1⟩=>?_
 rcases q1 with ⟨a,e,⟨xs,hq⟩,q⟩ | ⟨a,e,⟨xs,hq⟩,q⟩
 ·subst e
  cases r1
  obtain ⟨its,rv,p,hz⟩:=I1.list hq
  refine wpAny_pyIter_list p.isList ?_
  refine ⟨s1.heap.objs.size,[s1.heap.objs.size],_,_,H1,rfl,I1.kept (t':=s1.toks) fun b o e=>Heap.get?_push_of_some _ e,zT a _,⟨_,Heap.get?_push_size _ rfl,rfl,rfl⟩,fun b hb=>?_,q⟩
  have e:b=s1.heap.objs.size:=by simpa using hb
  subst e
  exact I1.mr (Nat.le_refl _) (I1.bE.fresh (Nat.le_refl _))
 ·subst e
  cases r1
  obtain ⟨its,rv,p,hz⟩:=I1.tuple hq
  refine wpAny_pyIter_tuple (show s1.heap.IsTuple a its.toArray from p) ?_
  refine ⟨s1.heap.objs.size,[s1.heap.objs.size],_,_,H1,rfl,I1.kept (t':=s1.toks) fun b o e=>Heap.get?_push_of_some _ e,wj a _,⟨_,Heap.get?_push_size _ rfl,rfl,rfl⟩,fun b hb=>?_,q⟩
  have e:b=s1.heap.objs.size:=by simpa using hb
  subst e
  exact I1.mr (Nat.le_refl _) (I1.bE.fresh (Nat.le_refl _))
theorem cw (h:PE X e (tE X.K O ge)):PI X tg e (tI X.K O (aY ge)):=(Cg h).mono fun σ H Q hh=>hh.e fun U A0 δ ds R ed q=>by
 obtain ⟨x,e1,e2⟩:=bind1 ed
 cases x with
 | list l=>
   cases e2
   refine ⟨U,A0,δ,_,R,e1,fun v H' s h=>?_⟩
   cases h with
   | lst hq h=>
     refine .inl ⟨_,rfl,⟨_,(hq.same bH).sq⟩,q _ H' s ?_⟩
     intro A' i H2 s2 _
     have wQ:=hq.same s2
     have h2:=h.same s2
     have hL:fY X.K H2 _ _:=(wQ.same bH).sq
     refine ⟨fun d hd=>?_,fun hi=>⟨_,hL,by rw [h2.len]; omega⟩⟩
     obtain ⟨x,hx,Ml⟩:=h2.get hd
     refine ⟨⟨_,x,hL,hx⟩,fun y H3 hy=>?_⟩
     obtain ⟨rfl,hy⟩:=hy
     have:=hy _ hL
     rw [hx] at this
     cases this
     exact ⟨az.refl _,Ml⟩
 | tuple l=>
   cases e2
   refine ⟨U,A0,δ,_,R,e1,fun v H' s h=>?_⟩
   cases h with
   | tup hq h=>
     refine .inr ⟨_,rfl,⟨_,(.inl (bH.lF hq))⟩,q _ H' s ?_⟩
     intro A' i H2 s2 _
     have wQ:=s2.lF hq
     have h2:=h.same s2
     have hL:jk X.K H2 _ _:=.inl (bH.lF wQ)
     refine ⟨fun d hd=>?_,fun hi=>⟨_,hL,by rw [h2.len]; omega⟩⟩
     obtain ⟨x,hx,Ml⟩:=h2.get hd
     refine ⟨⟨_,x,hL,hx⟩,fun y H3 hy=>?_⟩
     obtain ⟨rfl,hy⟩:=hy
     have:=hy _ hL
     rw [hx] at this
     cases this
     exact ⟨az.refl _,Ml⟩
 | _=>cases e2
end
def c5 (ix:List Nat) (δ:DS):DS:=ix.map fun j=>(δ[j]?).join
def lM (f:D->Option D):List D->Option (List D)
 | []=>some []
 | d :: ds=>(f d).bind fun x=>(lM f ds).bind fun xs=>some (x :: xs)
def cO (gi:DS->Option (List D)) (ix:List Nat) (ge:DS->Option D):DS->Option (List D):=fun δ=>(gi δ).bind fun ds=>if ds.length<=100000 then lM (fun d=>ge (some d :: c5 ix δ)) ds else none
theorem rb {f:D->Option D}:∀ {ds:List D} {xs:List D} {i:Nat} {d:D},lM f ds=some xs->ds[i]?=some d->∃ x,f d=some x /\ xs[i]?=some x
 | [],_,_,_,_,e=>by simp at e
 | c :: ds,xs,i,d,h,e=>by
   rw [lM] at h
   obtain ⟨x,e1,e2⟩:=bind1 h
   obtain ⟨r,e3,e4⟩:=bind1 e2
   cases e4
   cases i with
   | zero=>simp at e; subst e; exact ⟨x,e1,rfl⟩
   | succ i=>
     obtain ⟨y,h1,h2⟩:=rb (i:=i) e3 (by simpa using e)
     exact ⟨y,h1,by simpa using h2⟩
theorem uA {f:D->Option D}:∀ {ds:List D} {xs:List D},lM f ds=some xs->xs.length=ds.length
 | [],_,h=>by cases h; rfl
 | c :: ds,xs,h=>by
   rw [lM] at h
   obtain ⟨x,e1,e2⟩:=bind1 h
   obtain ⟨r,e3,e4⟩:=bind1 e2
   cases e4
   rw [List.length_cons,List.length_cons,uA e3]
theorem Rel.gf {K:PySem.W.Frag} {O:List Nat} {U A0:List Addr} {σ:St} {δ:DS} {H:Hp} (R:Rel K O U A0 σ δ H) {ix:List Nat} (uB:∀ j∈ix,j∉O) {v:V} {d:D} (h:HD K (wo H (U ++ A0)) v d):
  Rel K [] U A0 (some v :: L2.gf ix σ) (some d :: c5 ix δ) H where
 len:=by simp [L2.gf,c5]
 fz:=fun i e _ q=>by
  cases i with
  | zero=>simp at q; subst q; exact ⟨v,rfl,h⟩
  | succ i=>
    rw [List.getElem?_cons_succ] at q ⊢
    unfold c5 at q
    unfold L2.gf
    rw [List.getElem?_map] at q ⊢
    cases ei:ix[i]? with
    | none=>rw [ei] at q; cases q
    | some j=>
      rw [ei] at q
      simp only [Option.map_some,Option.some.injEq] at q
      obtain ⟨u,hu,hd⟩:=R.fz j e (uB j (List.mem_of_getElem? ei)) (join_some q)
      exact ⟨u,by simp [hu],hd⟩
 ow:=fun i e hi=>by simp at hi
 inj:=fun i j d e l hi=>by simp at hi
 al:=R.al
theorem Ci {K:PySem.W.Frag} {O:List Nat} {U A0:List Addr} {σ:St} {δ:DS} {H H1:Hp} {J:It} {ix:List Nat} {ge:DS->Option D} {ds xs:List D} {Q:VK} (R:Rel K O U A0 σ δ H) (s:az H H1) (uB:∀ j∈ix,j∉O) (hw:Walks K (U ++ A0) H1 J ds)
  (hl:ds.length<=100000) (e:lM (fun d=>ge (some d :: c5 ix δ)) ds=some xs) (q:∀ r ys H',az H H'->H r=none->H' r=some (.lst ys)->cy K (wo H' (r :: (U ++ A0))) ys xs->Q (.ref r) H'):wI J ix (tE K [] ge) σ H1 Q:=by
 have ZC:=uA e
 have NI:(100000:Nat) < sizeLine:=by decide
 refine ⟨fun i m ys H2=>m=ds.length - i /\ i<=ds.length /\ az H1 H2 /\ ys.length=i /\ cy K (wo H2 (U ++ A0)) ys (xs.take i),⟨ds.length,by simp,Nat.zero_le _,az.refl _,rfl,.nil⟩,?_⟩
 rintro i m ys H2 ⟨rfl,hle,s2,HB,hy⟩
 refine ⟨by omega,?_⟩
 obtain ⟨Jj,oW⟩:=hw (U ++ A0) i H2 (cq s2) (R.same (s.trans s2)).al
 by_cases g5:i < ds.length
 ·obtain ⟨d,hd⟩:∃ d,ds[i]?=some d:=⟨_,List.getElem?_eq_getElem g5⟩
  obtain ⟨go,NM⟩:=Jj d hd
  obtain ⟨x,e1,e2⟩:=rb e hd
  refine .inr ⟨go,by omega,fun y H3=>∃ m',m' < ds.length - i /\ (m'=ds.length - (i + 1) /\ i + 1<=ds.length /\ az H1 H3 /\ (ys ++ [y]).length=i + 1 /\ cy K (wo H3 (U ++ A0)) (ys ++ [y]) (xs.take (i + 1))),fun _ _ h=>h,fun v H3 y=>?_⟩
  obtain ⟨s3,hv⟩:=NM v H3 y
  have R3:=(R.same (s.trans (s2.trans s3))).gf uB hv
  refine ⟨U,A0,_,x,R3,e1,fun u H4 s4 hu=>⟨_,by omega,rfl,g5,(s2.trans s3).trans s4,by simp [HB],?_⟩⟩
  have ht:xs.take (i + 1)=xs.take i ++ [x]:=by
   rw [List.take_succ,e2]; rfl
  rw [ht]
  exact (hy.same (cq (s3.trans s4))).app (.cons hu .nil)
 ·have hi:i=ds.length:=by omega
  subst hi
  refine .inl ⟨oW rfl,fun p hp=>?_⟩
  rw [List.take_of_length_le (by omega)] at hy
  exact qX (s.trans s2) q p ys hp hy
section
variable {X:Cx} {O:List Nat} {fr:Fr} {scope:Scope} {x:Str} {elt iter:Expr} {px pos:Pos} {gi:DS->Option (List D)} {ge:DS->Option D}
theorem PS.nE {st:Stmt} {i:Nat} {g:DS->Option (List D)} (h:PS X st (mq (tN X.K O g) (eX i))):PS X st (mq (tE X.K O (aU g)) (eX i)):=h.mono fun _ _ _ h=>Hx h
end
def gn:Res->Option D
 | .rt d=>some d
 | .nx _=>some .none
 | _=>none
def lN:Res->Option (List D)
 | .rt (.list l)=>some l
 | _=>none
def ff (n:Nat) (g:DS->Option Res):List D->Option D:=fun ds=>(g (ds.map some ++ List.replicate (n - ds.length) none)).bind gn
def kj (n:Nat) (g:DS->Option Res):List D->Option (List D):=fun ds=>(g (ds.map some ++ List.replicate (n - ds.length) none)).bind lN
theorem Rel.start {K:PySem.W.Frag} {O:List Nat} {A:List Addr} {N:List Str} {vs:List V} {ds:List D} {H:Hp} (al:Ls A H) (h:cy K (wo H A) vs ds) (hO:∀ i∈O,ds.length<=i):Rel K O [] A (start N vs) (ds.map some ++ List.replicate (N.length - ds.length) none) H:=by
 have hl:=h.len
 have none_of:∀ (i:Nat) d,ds.length<=i->(ds.map some ++ List.replicate (N.length - ds.length) none)[i]?=some (some d)->False:=by
  intro i d hi q
  rw [List.getElem?_append_right (by simpa using hi)] at q
  have:=List.mem_of_getElem? q
  rw [List.mem_replicate] at this
  exact absurd this.2 (by simp)
 exact {
  len:=by unfold L2.start; simp [hl]
  fz:=fun i d _ q=>by
   by_cases hi:i < ds.length
   ·rw [List.getElem?_append_left (by simpa using hi),List.getElem?_map,List.getElem?_eq_getElem hi] at q
    simp only [Option.map_some,Option.some.injEq] at q
    obtain ⟨v,e,hv⟩:=h.get (List.getElem?_eq_getElem hi)
    refine ⟨v,?_,?_⟩
    ·unfold L2.start
     rw [List.getElem?_append_left (by rw [List.length_map]; omega),List.getElem?_map,e]; rfl
    ·rw [List.nil_append,<- q]; exact hv
   ·exact (none_of i d (by omega) q).elim
  ow:=fun i d hi q=>(none_of i d (hO i hi) q).elim
  inj:=fun i j d e l hi _ _ q=>(none_of i d (hO i hi) q).elim
  al:=al }
theorem Fx.start {A:List Addr} {H:Hp} (al:Ls A H):Fx H A [] H:=⟨az.refl H,fun _ h=>by simp at h,al⟩
section
variable {P:Program} {w:World} {K:PySem.W.Frag} {mg:Str->Option Value} {base:Heap} {x:Str} {st:Stmt} {N ps:List Str} {k:Nat}
theorem cS (O:List Nat) (g:DS->Option Res) (F:Df K mg x st ps) (S:aD N ps (ao st))
  (body:∀ (f:Addr) (bR:Value) (A:Around) (outer:List Env) (s:Shared) (H:Hp) (E:XK),dq k (A.deeper (envOfC x (ao st) s.heap.objs.size f bR))->ji (fZ v8 P w K mg base N x (ao st) f bR A outer s H E).G9 (cD st) (tS K O (false,fun _ _=>True) g))
  (hO:∀ i∈O,ps.length<=i:=by decide) {n m:Nat} (hN:N.length=n:=by rfl) (hP:ps.length=m:=by rfl):Dn P w K mg base (k + 1) x ps (eK K m (ff n g)):=by
 subst hN hP
 refine F.ok S (fun vs H Q E h=>h.1) (fun f bR A outer s H vs Q E hr h=>⟨_,body f bR A outer s H E hr,?_⟩)
 obtain ⟨hn,A',ds,d,al,hd,e,q⟩:=h
 obtain ⟨r,e1,e2⟩:=bind1 e
 refine ⟨H,[],A',_,r,Rel.start al hd (fun i hi=>by have:=hO i hi; rw [<- hd.len,hn]; exact this),Fx.start al,e1,?_⟩
 cases r with
 | nx δ=>cases e2; exact fun U σ H' R F'=>q .gU H' F'.same .gU
 | rt d=>cases e2; exact ⟨fun v H' h=>by unfold iA at h; rw [if_neg Bool.false_ne_true] at h; exact q v H' h.1 h.2,fun _ _ _ _=>trivial⟩
 | bk _=>cases e2
 | ct _=>cases e2
theorem Mm {f:Addr} {fd:FuncData} (O:List Nat) (g:DS->Option Res) (F:ij K x x st f fd) (S:aD N ps (ao st))
  (body:∀ (f:Addr) (bR:Value) (A:Around) (outer:List Env) (s:Shared) (H:Hp) (E:XK),dq k (A.deeper (envOfC x (ao st) s.heap.objs.size f bR))->ji (fZ v8 P w K mg base N x (ao st) f bR A outer s H E).G9 (cD st) (tS K O (false,fun _ _=>True) g))
  (hO:∀ i∈O,ps.length<=i:=by decide) {n m:Nat} (hN:N.length=n:=by rfl) (hP:ps.length=m:=by rfl):nI P w K mg base v8 (k + 1) f fd ps (eK K m (ff n g)):=by
 subst hN hP
 refine F.ok S (fun vs H Q E h=>h.1) (fun bR A outer s H vs Q E hr h=>⟨_,body f bR A outer s H E hr,?_⟩)
 obtain ⟨hn,A',ds,d,al,hd,e,q⟩:=h
 obtain ⟨r,e1,e2⟩:=bind1 e
 refine ⟨H,[],A',_,r,Rel.start al hd (fun i hi=>by have:=hO i hi; rw [<- hd.len,hn]; exact this),Fx.start al,e1,?_⟩
 cases r with
 | nx δ=>cases e2; exact fun U σ H' R F'=>q .gU H' F'.same .gU
 | rt d=>cases e2; exact ⟨fun v H' h=>by unfold iA at h; rw [if_neg Bool.false_ne_true] at h; exact q v H' h.1 h.2,fun _ _ _ _=>trivial⟩
 | bk _=>cases e2
 | ct _=>cases e2
theorem gq (O:List Nat) (g:DS->Option Res) (F:Df K mg x st ps) (S:aD N ps (ao st))
  (body:∀ (f:Addr) (bR:Value) (A:Around) (outer:List Env) (s:Shared) (H:Hp) (E:XK),dq k (A.deeper (envOfC x (ao st) s.heap.objs.size f bR))->ji (fZ v8 P w K mg base N x (ao st) f bR A outer s H E).G9 (cD st) (tS K O (true,fun _ _=>True) g))
  (hO:∀ i∈O,ps.length<=i:=by decide) {n m:Nat} (hN:N.length=n:=by rfl) (hP:ps.length=m:=by rfl):Dn P w K mg base (k + 1) x ps (qu K m (kj n g)):=by
 subst hN hP
 refine F.ok S (fun vs H Q E h=>h.1) (fun f bR A outer s H vs Q E hr h=>⟨_,body f bR A outer s H E hr,?_⟩)
 obtain ⟨hn,A',ds,d,al,hd,e,q⟩:=h
 obtain ⟨r,e1,e2⟩:=bind1 e
 refine ⟨H,[],A',_,r,Rel.start al hd (fun i hi=>by have:=hO i hi; rw [<- hd.len,hn]; exact this),Fx.start al,e1,?_⟩
 cases r with
 | rt d'=>
   refine ⟨fun v H' h=>?_,fun _ _ _ _=>trivial⟩
   unfold iA at h
   rw [if_pos rfl] at h
   obtain ⟨r,ob,rfl,a,b,c,f⟩:=h
   cases f with
   | lst f=>cases e2; exact q r _ H' a b c f
   | mj _ _=>cases e2
 | nx δ=>cases e2
 | bk _=>cases e2
 | ct _=>cases e2
end
def iW (f f':D->D->Option D) (a b c:DS->Option D):DS->Option D:=fun δ=>(a δ).bind fun x=>(b δ).bind fun y=>(f x y).bind fun z=>match z with
 | .bool true=>(c δ).bind fun w=>f' y w
 | .bool false=>some (.bool false)
 | _=>none
section
variable {X:Cx} {O:List Nat} {a b c:Expr} {ga gb gc:DS->Option D} {pos:Pos} {r r':R2}
theorem uC {K:PySem.W.Frag} {f f':D->D->Option D} (imp:ik K r f) (imp':ik K r' f') {σ:St} {H:Hp} {Q:VK}:tE K O (iW f f' ga gb gc) σ H Q->wx r r' (g0 K O ga) (g0 K O gb) (g0 K O gc) σ H Q:=fun ⟨U,A0,δ,d,R,ed,q⟩=>by
 obtain ⟨x,e1,ed⟩:=bind1 ed
 obtain ⟨y,e2,ed⟩:=bind1 ed
 obtain ⟨z,e3,ed⟩:=bind1 ed
 refine ⟨U,A0,δ,x,R,e1,fun v1 H1 s1 h1=>⟨U,A0,δ,y,R.same s1,e2,fun v2 H2 s2 h2=>imp _ H2 v1 v2 x y z _ (R.same (s1.trans s2)).al (h1.same s2) h2 e3 fun v3 H3 s3 h3=>?_⟩⟩
 cases z with
 | bool k=>
   cases h3
   refine ⟨k,rfl,?_⟩
   cases k with
   | true=>
     obtain ⟨w,e4,e5⟩:=bind1 ed
     first
      | rw [if_pos rfl]
      | skip
     exact ⟨U,A0,δ,w,R.same ((s1.trans s2).trans s3),e4,fun v4 H4 s4 h4=>imp' _ H4 v2 v4 y w d Q (R.same (((s1.trans s2).trans s3).trans s4)).al (h2.same (s3.trans s4)) h4 e5 fun v H' s h=>q v H' ((((s1.trans s2).trans s3).trans s4).trans s) h⟩
   | false=>
     cases ed
     first
      | rw [if_neg Bool.false_ne_true]
      | skip
     exact q _ H3 ((s1.trans s2).trans s3) (.bl _)
 | _=>cases ed
theorem Cj {op wy:CmpOp} {f f':D->D->Option D} (ho:gH X (compareOp op) r) (imp:ik X.K r f) (tW:gH X (compareOp wy) r') (imp':ik X.K r' f') (ha:PE X a (g0 X.K O ga)) (hb:PE X b (g0 X.K O gb)) (hc:PE X c (g0 X.K O gc)) (hm:lastMarks [op,wy] [b,c]=false:=by with_unfolding_all rfl):PE X (.Compare a [op,wy] [b,c] pos) (tE X.K O (iW f f' ga gb gc)):=(BI ho tW ha hb hc hm).mono fun _ _ _=>uC imp imp'
theorem Al {op wy:CmpOp} {f f':D->D->Option D} (ho:gH X (compareOp op) r) (imp:ik X.K r f) (tW:gH X (compareOp wy) r') (imp':ik X.K r' f') (ha:PE X a (g0 X.K O ga)) (hb:PE X b (g0 X.K O gb)) (hc:PE X c (g0 X.K O gc)) (hm:lastMarks [op,wy] [b,c]=false:=by with_unfolding_all rfl):PT X (.Compare a [op,wy] [b,c] pos) (tT X.K O (gB (iW f f' ga gb gc))):=(BJ ho tW ha hb hc hm).mono fun _ _ _=>Hy fun _ _ _=>uC imp imp'
end
section
variable {X:Cx} {O:List Nat} {fr:Fr} {st:Stmt} {gr:DS->Option (List D)} {i j:Nat}
end
def yV:D->Option D
 | .int i=>some (.int (Builtin.Int.intBits i:Nat))
 | _=>none
theorem yW {X:Cx} {O:List Nat} {o:Expr} {ga:DS->Option D} {apos cM:Pos} (ho:PE X o (g0 X.K O ga)) (oE:attributeBase o "bit_length" X.env (eval o X.env)=eval o X.env:=by rfl) (oF:(apos.endLine == cM.line)=true:=by rfl):
  PE X (.Call (.Attribute o "bit_length" apos) [] [] cM) (tE X.K O (g1 yV ga)):=(Fg ho oE oF).mono fun σ H Q hh=>hh.e fun U A0 δ d R ed q=>by
 obtain ⟨x,e1,e2⟩:=bind1 ed
 cases x with
 | int i=>
   cases e2
   refine ⟨U,A0,δ,_,R,e1,fun v H' s h=>?_⟩
   rw [h.int]
   exact ⟨rfl,i,rfl,rfl,q _ H' s (.int _)⟩
 | _=>cases e2
abbrev Jk:D->D->Option D:=Hz (fun _ j=>0<=j) fun i j=>.int (i / 2 ^ j.toNat)
def jz:D->Bool
 | .none | .bool _ | .int _ | .str _=>true
 | _=>false
def dV:D->V
 | .none=>.gU
 | .bool b=>.bl b
 | .int i=>.int i
 | .str x=>.str x
 | _=>.gU
def Ck (a b:D):Bool:=EF (dV a) (dV b)
def Jl:D->D->Option D:=fun x y=>match y with
 | .list l=>if (jz x && l.all jz)=true then some (.bool (l.any fun z=>Ck z x)) else none
 | .tuple l=>if (jz x && l.all jz)=true then some (.bool (l.any fun z=>Ck z x)) else none
 | _=>none
def kD:D->D->Option D:=fun x y=>(Jl x y).bind fun | .bool c=>some (.bool (!c)) | _=>none
theorem gg.flat {K:PySem.W.Frag} {A:List Addr} {H:Hp} {v:V} {d:D} (h:gg K A H v d) (f:jz d=true):v=dV d /\ jl v=true:=by
 cases d with
 | none=>rw [h.gU]; exact ⟨rfl,rfl⟩
 | bool b=>rw [h.bool]; exact ⟨rfl,rfl⟩
 | int i=>rw [h.int]; exact ⟨rfl,rfl⟩
 | str x=>rw [h.str]; exact ⟨rfl,rfl⟩
 | _=>cases f
theorem cy.flat {K:PySem.W.Frag} {H:Hp}:∀ {xs:List V} {ds:List D},cy K H xs ds->ds.all jz=true->xs=ds.map dV /\ xs.all jl=true
 | _,_,.nil,_=>⟨rfl,rfl⟩
 | _,_,.cons h t,f=>by
   rw [List.all_cons,Bool.and_eq_true] at f
   obtain ⟨e1,e2⟩:=cy.flat t f.2
   obtain ⟨e3,e4⟩:=(gg.of (A:=[]) (by rw [B5]; exact h)).flat f.1
   exact ⟨by rw [List.map_cons,<- e1,<- e3],by rw [List.all_cons,e4,e2]; rfl⟩
theorem HC (x:D) (l:List D):IJ (dV x) (l.map dV)=l.any fun z=>Ck z x:=by
 unfold IJ Ck
 rw [List.any_map]; rfl
section
variable {X:Cx}
theorem Jm:gH X (compareOp .In) (KO X.K false):=z0
theorem rf:gH X (compareOp .NotIn) (KO X.K true):=rS
end
set_option tactic.hygienic true in
theorem yX {K:PySem.W.Frag} {A:List Addr} {H:Hp} {x y:V} {dx dy d:D} (hx:gg K A H x dx) (hy:gg K A H y dy) (e:Jl dx dy=some d):∃ p xs b,y=.ref p /\ (fY K H p xs \/ jk K H p xs) /\ jl x=true /\ xs.all jl=true /\ d=.bool b /\ IJ x xs=b:=by
 unfold Jl at e
 split at e
 ·split at e
  ·rename_i hf
   rw [Bool.and_eq_true] at hf
   cases e
   obtain ⟨p,xs,rfl,h1,h2⟩:=hy.list
   obtain ⟨e1,e2⟩:=h2.flat hf.2
   obtain ⟨e3,e4⟩:=hx.flat hf.1
   exact ⟨p,xs,_,rfl,.inl h1.sq,e4,e2,rfl,by rw [e1,e3,HC]⟩
  ·cases e
 ·split at e
  ·rename_i hf
   rw [Bool.and_eq_true] at hf
   cases e
   obtain ⟨p,xs,rfl,h1,h2⟩:=hy.tuple
   obtain ⟨e1,e2⟩:=h2.flat hf.2
   obtain ⟨e3,e4⟩:=hx.flat hf.1
   exact ⟨p,xs,_,rfl,.inr h1,e4,e2,rfl,by rw [e1,e3,HC]⟩
  ·cases e
 ·cases e
theorem Jn {K:PySem.W.Frag}:ik K (KO K false) Jl:=by
 intro A H x y dx dy d Q al hx hy e q
 obtain ⟨p,xs,b,h1,h2,h3,h4,rfl,h5⟩:=yX hx hy e
 refine ⟨p,xs,h1,h2,h3,h4,?_⟩
 show Q (.bl (IJ x xs)) H
 rw [h5]
 exact q _ H (az.refl H) (.bl _)
theorem rg {K:PySem.W.Frag}:ik K (KO K true) kD:=by
 intro A H x y dx dy d Q al hx hy e q
 obtain ⟨c,e1,e2⟩:=bind1 e
 obtain ⟨p,xs,b,h1,h2,h3,h4,rfl,h5⟩:=yX hx hy e1
 cases e2
 refine ⟨p,xs,h1,h2,h3,h4,?_⟩
 show Q (.bl (!IJ x xs)) H
 rw [h5]
 exact q _ H (az.refl H) (.bl _)
theorem yY (a b:Int):Ck (.int a) (.int b)=decide (a=b):=by
 simp only [Ck,dV,EF]
 rw [Bool.beq_eq_decide_eq]
section
variable {X:Cx} {O:List Nat} {fr:Fr} {st:Stmt} {ge gx:DS->Option D} {gl:DS->Option (List D)} {i:Nat}
def wR (i:Nat) (g:DS->Option (List D)):DS->Option Res:=fun δ=>(af i δ).bind fun x=>(g δ).bind fun zs=>match x with
 | .list ds=>if ds.length + zs.length<=100000 then some (.nx (δ.set i (some (.list (ds ++ zs))))) else none
 | _=>none
set_option tactic.hygienic true in
theorem jW (h:PS X st (yB (NH X.K "list" yH (qg i) (yE (tN X.K O gl) EZ)))) (hi:i∈O:=by decide):PS X st (tS X.K O fr (wR i gl)):=h.mono fun E σ H hh=>hh.e fun H0 U A0 δ r R F ed P=>by
 obtain ⟨x,e1,e2⟩:=bind1 ed
 obtain ⟨zs,e3,e4⟩:=bind1 e2
 rcases R.UL i x hi (join_some e1) with ⟨l,ys,ds,hl,rfl,hU,h1,h2⟩ | ⟨kds,rfl⟩
 rotate_left
 ·(exfalso; simp_all; done)
 simp only at e4
 split at e4
 ·rename_i hz
  cases e4
  refine ⟨.ref l,hl,.inl ⟨rfl,ys,fY.of h1⟩,U,A0,δ,zs,R,e3,fun p ws H' s hp V3 NJ=>?_⟩
  have Mi:=s _ _ h1
  have ON:=h2.same (cq (A:=U ++ A0) s)
  have V4:=NJ.same (fR (A':=U ++ A0) fun a ha=>List.mem_cons_of_mem _ ha)
  have hlen:=h2.len
  have Mn:=NJ.len
  refine ⟨l,p,ys,ws,rfl,rfl,Mi,V3,small (by omega),?_⟩
  exact P U σ _ ((R.same s).put hi hl hU (ON.app V4) ⟨_,join_some e1⟩) ((F.grow s).put hU _)
 ·cases e4
end
section
variable {X:Cx} {O:List Nat} {tg a:Expr} {ge:DS->Option D} {p pos:Pos}
end
section
variable {X:Cx} {pins:List (Addr×Obj)} {σ:St} {H:Hp} {s:Shared} {h':Heap}
theorem Inv.g6 {t':Nat} {ch:List Addr} (I:Inv X pins σ H s) (k:∀ b o,b∉ch->s.heap.get? b=some o->h'.get? b=some o) (hf:∀ b∈ch,kr X pins H b):Inv X pins σ H { s with heap:=h',toks:=t' }:=by
 have Ll:∀ b u,H b=some u->b∉ch:=fun b u e z=>by rw [(hf b z).1] at e; cases e
 refine I.step (g':=s.gens) (d':=s.drawn) (ch:=ch) (fun b hb=>?_) (fun b o _ _ hc e _=>k b o hc e) (fun b o _ _ hc e _=>⟨o.slots,k b o hc e⟩) (fun _ _ _ _ n=>n)
  (fun b o hc e=>⟨o,k b o hc e⟩) (fun _ _ e=>e) (fun _ _ _ e=>e) (fun b ps e=>⟨#[],by rw [e]; simp⟩) (fun m hm=>?_) (fun b u e=>?_) I.bare
 ·obtain ⟨_,a,_,b',c,d⟩:=hf b hb
  exact ⟨b',a,c,d⟩
 ·obtain ⟨o,es,ep,ho,r⟩:=hm
  exact ⟨o,es,ep,k _ o (fun z=>(hf _ z).2.1 rfl) ho,r⟩
 ·refine (I.bE b u e).nG (fun c v hc q=>k c v ?_ q) (fun _ q=>q) fun _ _ q=>q
  rcases hc with z | z
  ·rw [z]; exact Ll b u e
  ·exact Ll c _ z
theorem Inv.si {D:Addr} {ys:List V} {its:List Value} (I:Inv X pins σ H s) (hD:H D=none) (hs:X.eJ.heap.objs.size<=D) (hl:D≠X.env.locals) (hc:∀ x c,X.env.cells.lookup x=some c->c≠D)
  (hp:∀ p∈X.pn ++ pins,p.1≠D) (e:IsTup s.heap D its.toArray) (r:bf ys its) (hz:ys.length<=sizeLine):Inv X pins σ (upd H D (.tup ys)) s:=by
 have h:=I.step (H':=upd H D (.tup ys)) (h':=s.heap) (g':=s.gens) (t':=s.toks) (d':=s.drawn) (ch:=[D]) (fun b hb=>by
   have e:b=D:=by simpa using hb
   subst e
   exact ⟨.inr hs,hl,hc,hp⟩)
  (fun b o _ _ _ q _=>q) (fun b o _ _ _ q _=>⟨o.slots,q⟩) (fun b o hb _ q=>by rw [aI (by simpa using hb)]; exact q) (fun b o _ q=>⟨o,q⟩)
  (fun b xs q=>by rw [aI (bo q hD)]; exact q) (fun b o u q=>by rw [aI (bo q hD)]; exact q) (fun b ps q=>⟨#[],by rw [aI (bo q hD),Array.append_empty]; exact q⟩) (fun m hm=>hm) (fun b u q=>?_) I.bare
 ·exact h
 ·by_cases hb:b=D
  ·subst hb
   rw [bw] at q; cases q
   exact ⟨hz,its,r,e⟩
  ·rw [aI hb] at q
   exact (I.bE b u q).nG (fun _ _ _ z=>z) (fun c z=>by rw [aI (bo z hD)]; exact z) fun c xs z=>z.new hD
end
def UO (K:PySem.W.Frag) (a:Addr):It:=
 ⟨fun i H=>∃ xs x,fY K H a xs /\ xs[i]?=some x,fun i H x H'=>∃ p v,H p=none /\ x=.ref p /\ H'=upd H p (.tup [.int i,v]) /\ ∀ xs,fY K H a xs->xs[i]?=some v,fun i H=>∃ xs,fY K H a xs /\ xs.length<=i⟩
theorem Am {P:Program} {w:World} {K:PySem.W.Frag} {es:List Expr} {kk} {ig:Pos} (a e it:Addr) (iU:e≠it):Turn P w K (.Tuple es kk ig) (UO K a) [e,it] e (fun i h=>(∃ old,IsEnum h e it i old) /\ h.IsListIter it a i) where
 mem:=by simp
 obj:=fun i h st b hb=>by
  obtain ⟨⟨old,he⟩,o,ho,c,d⟩:=st
  rcases List.mem_cons.mp hb with z | z
  ·subst z; exact ⟨_,he,fun v z=>by cases z⟩
  ·have z:b=it:=by simpa using z
   subst z; exact ⟨o,ho,fun v z=>by rw [d] at z; cases z⟩
 keep:=fun i h h' st k=>by
  obtain ⟨⟨old,he⟩,gz⟩:=st
  exact ⟨⟨old,k e (by simp) _ he⟩,gz.at fun o eo=>k it (by simp) o eo⟩
 item:=by
  intro X hP hw hK hc i pins s σ H E I hf st hg
  subst hP hw hK
  obtain ⟨xs,x,hq,hx⟩:=hg
  obtain ⟨its,rv,p,hz⟩:=I.list hq
  obtain ⟨u,hu,ru⟩:=rv.get hx
  obtain ⟨⟨old,he⟩,gz⟩:=st
  refine wpAny_pyNext_enum_item he gz p.isList (x:=u) (by simpa using hu) iU fun h1 zP OP KW Fv wa=>?_
  refine ⟨_,rfl,wpAny_letOwnedTupleGo_enum zP fun h2 Cm kb=>?_⟩
  replace kb:Heap.SameBut e h1 h2:=kb
  have HE:e < s.heap.objs.size:=Heap.lt_size he
  have I1:Inv X pins σ H { s with heap:=h2,toks:=s.toks + 1 }:=I.g6 (t':=s.toks + 1) (ch:=[e,it]) (fun b o hb eo=>by
   simp only [List.mem_cons,List.not_mem_nil,or_false,not_or] at hb
   exact (kb.2 b hb.1).trans (wa b o hb.1 hb.2 eo)) hf
  have Jo:IsTup h2 s.heap.objs.size [Value.int i s.toks,u].toArray:=⟨_,(kb.2 _ (Nat.ne_of_gt HE)).trans KW,rfl,_,rfl⟩
  have jV:H s.heap.objs.size=none:=I.bE.fresh (Nat.le_refl _)
  have fo:=I.mr (H':=H) (Nat.le_refl _) jV
  have I2:Inv X pins σ (upd H s.heap.objs.size (.tup [.int i,x])) { s with heap:=h2,toks:=s.toks + 1 }:=I1.si jV (Nat.le_trans I.sz (Nat.le_refl _)) fo.2.1 fo.2.2.2.2.1 fo.2.2.2.2.2 Jo (.cons ⟨_,rfl⟩ (.cons ru .nil)) (by show 2<=sizeLine; decide)
  refine ⟨.ref s.heap.objs.size,_,I2,rfl,⟨_,x,jV,rfl,rfl,fun ys hy=>by rw [I.lz hy hq]; exact hx⟩,⟨⟨u,Cm⟩,OP.extBut kb.extBut (Ne.symm iU)⟩,fun b hb=>?_⟩
  have g5:b < s.heap.objs.size:=by
   rcases List.mem_cons.mp hb with z | z
   ·subst z; exact HE
   ·have z:b=it:=by simpa using z
    subst z
    obtain ⟨o,ho,_⟩:=gz
    exact Heap.lt_size ho
  rw [aI (Nat.ne_of_lt g5)]
  exact (hf b hb).1
 done:=by
  intro X hP hw hK hc i pins s σ H E I hf st hg
  subst hP hw hK
  obtain ⟨xs,hq,hx⟩:=hg
  obtain ⟨its,rv,p,hz⟩:=I.list hq
  obtain ⟨⟨old,he⟩,gz⟩:=st
  have hl:=rv.length
  refine wpAny_pyNext_enum_end (I.ok.hd hc) he gz p.isList (by simp; omega) fun h1 eb=>⟨rfl,?_⟩
  exact I.g6 (t':=s.toks) (ch:=[e,it]) (fun b o hb eo=>eb b o (fun z=>hb (by simp [z])) eo) hf
 self:=fun _ _ _ _ _ st h=>by
  obtain ⟨⟨old,he⟩,_⟩:=st
  exact wpAny_pyIter_enum he h
theorem iX:bootBuiltins "enumerate"=some (.type "enumerate"):=by decide +kernel
def fV (l:List D):List D:=l.zipIdx.map fun p=>.tuple [.int (p.2:Nat),p.1]
theorem rh {l:List D} {i:Nat} {d:D} (h:(fV l)[i]?=some d):∃ x,l[i]?=some x /\ d=.tuple [.int (i:Nat),x]:=by
 unfold fV at h
 rw [List.getElem?_map,List.getElem?_zipIdx] at h
 cases e:l[i]? with
 | none=>rw [e] at h; cases h
 | some x=>rw [e] at h; simp at h; exact ⟨x,rfl,h.symm⟩
theorem mH {l:List D}:(fV l).length=l.length:=by unfold fV; simp
section
variable {X:Cx} {O:List Nat} {a:Expr} {ge:DS->Option D} {p pos:Pos} {es:List Expr} {kk} {ig:Pos}
def Mo (K:PySem.W.Frag) (ta:TA):TI:=fun σ H R=>ta σ H fun vs H1=>∃ a xs,vs=[.ref a] /\ fY K H1 a xs /\ R (UO K a) H1
theorem Fw {ta:TA} (hg:Gl X "enumerate") (hm:X.mg "enumerate"=none) (ha:PA X [a] ta) (hs:starEach [a] X.env=[(false,eval a X.env)]:=by rfl):PI X (.Tuple es kk ig) (.Call (.Name "enumerate" p) [a] [] pos) (Mo X.K ta):=by
 intro pins s σ H R I h
 refine Call_ (ic I hg hm iX (PyProof.Rows.callWith_type1 (dh (ha pos pins s σ H _ I h) fun us s1 ⟨vs,H1,I1,r1,q1⟩=>?_) hs rfl))
 obtain ⟨b,xs,e,hq,q⟩:=q1
 subst e
 obtain ⟨u,rfl,ru⟩:=vals1 r1
 cases ru
 obtain ⟨its,rv,pl,hz⟩:=I1.list hq
 refine call_enumerate_list pl.isList fun h' he hit hsz hk=>?_
 refine wpAny_pyIter_enum he ?_
 refine ⟨s1.heap.objs.size + 1,[s1.heap.objs.size + 1,s1.heap.objs.size],_,_,H1,rfl,I1.kept (t':=s1.toks) hk,Am b _ s1.heap.objs.size (Nat.succ_ne_self _),⟨⟨_,he⟩,hit⟩,fun b hb=>?_,q⟩
 have hle:s1.heap.objs.size<=b:=by
  simp only [List.mem_cons,List.not_mem_nil,or_false] at hb
  rcases hb with z | z
  ·rw [z]; exact Nat.le_succ _
  ·rw [z]; exact Nat.le_refl _
 exact I1.mr hle (I1.bE.fresh hle)
def dB (g:DS->Option D):DS->Option (List D):=fun δ=>(g δ).bind fun | .list l=>some (fV l) | _=>none
theorem lO (hm:X.mg "enumerate"=none) (ha:PE X a (tE X.K O ge)) (hg:Gl X "enumerate":=by rfl) (hs:starEach [a] X.env=[(false,eval a X.env)]:=by rfl) (Mp:starEach ([]:List Expr) X.env=[]:=by rfl):PI X (.Tuple es kk ig) (.Call (.Name "enumerate" p) [a] [] pos) (tI X.K O (dB ge)):=
 (Fw hg hm (bU ha df (by rw [hs,Mp])) hs).mono fun σ H Q hh=>hh.e fun U A0 δ ds R ed q=>by
  obtain ⟨x,e1,e2⟩:=bind1 ed
  cases x with
  | list l=>
    cases e2
    refine ⟨U,A0,δ,_,R,e1,fun v H' s h=>?_⟩
    cases h with
    | lst hq h=>
      refine ⟨_,_,rfl,(hq.same bH).sq,q _ H' s ?_⟩
      intro A' i H2 s2 al
      have h2:=h.same s2
      have hL:fY X.K H2 _ _:=((hq.same s2).same bH).sq
      refine ⟨fun d hd=>?_,fun hi=>⟨_,hL,by rw [hi,mH,h2.len]; exact Nat.le_refl _⟩⟩
      obtain ⟨y,hy,rfl⟩:=rh hd
      obtain ⟨v,hv,Mq⟩:=h2.get hy
      refine ⟨⟨_,v,hL,hv⟩,fun z H3 hz=>?_⟩
      obtain ⟨p,v',hp,rfl,rfl,Mr⟩:=hz
      have:=Mr _ hL
      rw [hv] at this
      cases this
      exact ⟨bI hp _,HD.r8 al hp (.cons (.int _) (.cons Mq .nil))⟩
  | _=>cases e2
end
def WalksS (K:PySem.W.Frag) (A:List Addr) (H1:Hp) (J:It) (ds:List D):Prop:=∀ (i:Nat) (H:Hp),az H1 H->
 (∀ d,ds[i]?=some d->J.go i H /\ ∀ x H2,J.Ip i H x H2->az H H2 /\ HD K (wo H2 A) x d) /\ (i=ds.length->J.stop i H)
def HF (K:PySem.W.Frag) (O:List Nat) (g:DS->Option (List D)):TI:=fun σ H R=>∃ U A0 δ ds,Rel K O U A0 σ δ H /\ g δ=some ds /\ ∀ J H1,az H H1->WalksS K (U ++ A0) H1 J ds->R J H1
theorem HF.e {K:PySem.W.Frag} {O:List Nat} {g:DS->Option (List D)}  {σ:_} {H:_} {R:_} {GG:Prop} (hh:HF K O g σ H R) (kk:∀ U A0 δ ds,(Rel K O U A0 σ δ H)->(g δ=some ds)->(∀ J H1,az H H1->WalksS K (U ++ A0) H1 J ds->R J H1)->GG):GG:=by obtain ⟨U,A0,δ,ds,x0,x1,x2⟩:=hh; exact kk U A0 δ ds x0 x1 x2
section
variable {X:Cx} {O:List Nat} {tg e:Expr} {gi:DS->Option (List D)} {ge:DS->Option D} {pos:Pos}
theorem PI.c (h:PI X tg e (tI X.K O gi)):PI X tg e (HF X.K O gi):=h.mono fun σ H Q hh=>hh.e fun U A0 δ ds R ed q=>⟨U,A0,δ,ds,R,ed,fun J H1 s hw=>q J H1 s fun i H2 s2=>hw (U ++ A0) i H2 (cq s2) ((R.same (s.trans s2)).al)⟩
end
section
variable {X:Cx} {O:List Nat} {fr:Fr} {scope:Scope} {x:Str} {elt iter:Expr} {px pos:Pos} {gi:DS->Option (List D)} {ge:DS->Option D}
end
end L2
namespace LS
open PySem PySem.Spec PyProof.Rows
section
variable {prog:Program} {w:World} {A:Around} {E:Value->Shared->Prop} {s:Shared} {it t:Addr} {i:Nat} {items:Array Value}
theorem wU {x:Value} {Q:Value->Shared->Prop} (hit:s.heap.IsTupleIter it t i) (ht:s.heap.IsTuple t items) (hx:items[i]?=some x)
  (hQ:∀ h',h'.IsTupleIter it t (i + 1)->Heap.SameBut it s.heap h'->Q x { s with heap:=h' }):wpAny (model prog w) A (Builtin.SmallTypes.nextOf (.ref it)) Q E s:=by
 obtain ⟨o,ho,hc,hd⟩:=id hit
 obtain ⟨ol,Jp,_,nl,OQ⟩:=ht
 unfold Builtin.SmallTypes.nextOf
 refine wpAny_bind (wpAny_callSpecial?_slot (name:=Str.ofString "__next__") hit.typeIs PySem.F.slot_tuple_iterator_next (wpAny_call_entry PySem.F.slot_tuple_iterator_next hit.typeIs PySem.F.entry_tuple_iterator_next ?_ (PySem.F.args_tuple_iterator_next_1 _)))
 show wpAny _ _ (field (.ref it) 0 >>= _) _ _ s
 refine wpAny_bind (wpAny_field ho hd (x:=.ref t) rfl ?_)
 show wpAny _ _ (if (Value.ref t == Value.none)=true then _ else _) _ _ s
 rw [if_neg (show ¬ ((Value.ref t == Value.none)=true) from Bool.false_ne_true)]
 show wpAny _ _ (field (.ref it) 1 >>= _) _ _ s
 refine wpAny_bind (wpAny_field ho hd (x:=.int i 0) rfl ?_)
 show wpAny _ _ (seqItems? (.ref t) >>= _) _ _ s
 refine wpAny_bind (wpAny_seqItems Jp OQ ?_)
 simp only [Int.toNat_natCast,hx]
 refine wpAny_bind (wpAny_setField ho hd (by simp) (wpAny_pure ⟨x,rfl,wpAny_pure (hQ _ ?_ (Heap.SameBut.update ..))⟩))
 exact ⟨_,Heap.get?_update_self _ ho (Obj.isFreed_of_fields (Obj.data_mapFields hd _)),(Obj.cls_mapFields ..).trans hc,by rw [Obj.data_mapFields hd]; simp [rawInt]⟩
theorem An {Q:Value->Shared->Prop} (hh:A.handled=none) (hit:s.heap.IsTupleIter it t i) (ht:s.heap.IsTuple t items) (hx:items[i]?=none)
  (hE:∀ h' e,Heap.ExtBut it s.heap h'->(∃ o,h'.get? e=some o /\ o.cls=.type "StopIteration")->E (.ref e) { s with heap:=h' }):wpAny (model prog w) A (Builtin.SmallTypes.nextOf (.ref it)) Q E s:=by
 obtain ⟨o,ho,hc,hd⟩:=id hit
 obtain ⟨ol,Jp,_,nl,OQ⟩:=ht
 unfold Builtin.SmallTypes.nextOf
 refine wpAny_bind (wpAny_callSpecial?_slot (name:=Str.ofString "__next__") hit.typeIs PySem.F.slot_tuple_iterator_next (wpAny_call_entry PySem.F.slot_tuple_iterator_next hit.typeIs PySem.F.entry_tuple_iterator_next ?_ (PySem.F.args_tuple_iterator_next_1 _)))
 show wpAny _ _ (field (.ref it) 0 >>= _) _ _ s
 refine wpAny_bind (wpAny_field ho hd (x:=.ref t) rfl ?_)
 show wpAny _ _ (if (Value.ref t == Value.none)=true then _ else _) _ _ s
 rw [if_neg (show ¬ ((Value.ref t == Value.none)=true) from Bool.false_ne_true)]
 show wpAny _ _ (field (.ref it) 1 >>= _) _ _ s
 refine wpAny_bind (wpAny_field ho hd (x:=.int i 0) rfl ?_)
 show wpAny _ _ (seqItems? (.ref t) >>= _) _ _ s
 refine wpAny_bind (wpAny_seqItems Jp OQ ?_)
 simp only [Int.toNat_natCast,hx]
 refine wpAny_bind (wpAny_rule (wpAny_bind (wpAny_setField ho hd (by simp) ?_)))
 show wpAny _ _ (newExc (.type "StopIteration") [] >>= _) _ _ _
 refine wpAny_bind ?_
 simp only [newExc,newTuple]
 refine wpAny_bind (wpAny_newObj_type ?_ (by size_fits))
 refine wpAny_bind (m:=firstArgMember _ _) (wpAny_of_eq (a:=Value.none) (by first | rfl | (simp only [firstArgMember]; rfl)) ?_)
 refine wpAny_newObj_type ?_ (by size_fits)
 simp only [raiseNew]
 refine wpAny_bind (wpAny_handled ?_)
 first | rw [show A.in1.handled=none from hh] | rw [hh]
 refine wpAny_bind (wpAny_pure (wpAny_throw ?_))
 exact hE _ _ (((Heap.SameBut.update ..).extBut.push _).push _) ⟨_,Heap.get?_push_size _ rfl,rfl⟩
theorem g7 (hh:A.handled=none) (it l:Addr) (iU:l≠it) (items:Array Value):
  Draws prog w A it [it,l] items.size (fun i v=>items[i]?=some v) (fun i h=>h.IsTupleIter it l i /\ h.IsTuple l items) where
 live:=fun _ _ st=>let ⟨o,ho,_⟩:=st.1; ⟨o,ho⟩
 frame:=fun _ _ _ st hk=>⟨st.1.at fun o e=>hk it (by simp) o e,st.2.at fun o e=>hk l (by simp) o e⟩
 item:=fun i s Q E hi st hQ=>wU st.1 st.2 (x:=items[i]) (by simp [hi]) fun h' sj lE=>hQ _ h' s.toks (by simp [hi]) ⟨sj,st.2.extBut lE.extBut iU⟩ lE
 done:=fun s Q E st hE=>An hh st.1 st.2 (by simp) hE
end
set_option maxHeartbeats 1000000 in
set_option tactic.hygienic true in
theorem r8 (l:Addr) (items:Array Value) (n:Nat) (mj:Option Addr) (sl:Array (Option Value)):
  Meets (Builtin.«enumerate.__new__» ⟨[.type "enumerate",.ref l],[]⟩) (fun _ R s=>s.heap.get? l=some { cls:=.type "tuple",dict:=mj,data:=.seq items n,slots:=sl } /\
   R (.ok (.ret (.ref (s.heap.push { cls:=.type "tuple_iterator",data:=.fields #[.ref l,.int 0 0] }).objs.size)))
     { s with heap:=(s.heap.push { cls:=.type "tuple_iterator",data:=.fields #[.ref l,.int 0 0] }).push { cls:=.type "enumerate",data:=.fields #[.none,.bool false,.ref s.heap.objs.size,rawInt 0,.none,.none] } }):=
 .of_wp fun prog w A R s h=>by
  obtain ⟨hp,g,d,tk,os⟩:=s; obtain ⟨hl,h⟩:=h
  have uD:=sub_enumerate
  have hL:Heap.IsTuple (Shared.heap ⟨hp,g,d,tk,os⟩) l items:=⟨_,hl,rfl,n,rfl⟩
  wp_walk using AutoSeq1.wpAny_loadPart' hl
  refine wpAny_stack_any fun st=>wpAny_pure ?_
  split
  ·rename_i c _ _ _ _ _
   cases (c == Value.type "enumerate")
   ·wp_walk using AutoSeq1.wpAny_loadPart' hl,wpAny_pyIter_tuple hL
    exact ⟨_,rfl,h⟩
   ·wp_walk using AutoSeq1.wpAny_loadPart' hl,wpAny_pyIter_tuple hL
    exact ⟨_,rfl,h⟩
  ·wp_walk using AutoSeq1.wpAny_loadPart' hl,wpAny_pyIter_tuple hL
   exact ⟨_,rfl,h⟩
section
variable {prog:Program} {w:World} {A:Around} {E:Value->Shared->Prop} {s:Shared}
theorem wV {l:Addr} {items:Array Value} {Q:Value->Shared->Prop} (hL:s.heap.IsTuple l items)
  (h:∀ h',IsEnum h' (s.heap.objs.size + 1) s.heap.objs.size 0 .none->h'.IsTupleIter s.heap.objs.size l 0->h'.objs.size=s.heap.objs.size + 2->(∀ b o,s.heap.get? b=some o->h'.get? b=some o)->Q (.ref (s.heap.objs.size + 1)) { s with heap:=h' }):
  wpAny (model prog w) A (call (.type "enumerate") [.ref l]) Q E s:=by
 obtain ⟨⟨c,mj,dt,sl⟩,hl,hc,n,hd⟩:=hL
 simp only at hc hd
 subst hc hd
 refine callType_new PySem.F.called_enumerate (by decide) (PySem.F.typeCall_enumerate_1 _) (PySem.F.newCall_enumerate_1 _) (fun obj=>PySem.F.args_object_init_2 obj _) PySem.F.entry_enumerate_new (r8 l items n mj sl) ⟨hl,?_⟩
 have hz:(s.heap.push { cls:=.type "tuple_iterator",data:=.fields #[.ref l,.int 0 0] }).objs.size=s.heap.objs.size + 1:=Heap.size_push ..
 show _ /\ _
 rw [hz]
 have he:IsEnum ((s.heap.push { cls:=.type "tuple_iterator",data:=.fields #[.ref l,.int 0 0] }).push { cls:=.type "enumerate",data:=.fields #[.none,.bool false,.ref s.heap.objs.size,rawInt 0,.none,.none] }) (s.heap.objs.size + 1) s.heap.objs.size 0 .none:=by
  have q:=Heap.get?_push_size (s.heap.push { cls:=.type "tuple_iterator",data:=.fields #[.ref l,.int 0 0] }) (o:={ cls:=.type "enumerate",data:=.fields #[.none,.bool false,.ref s.heap.objs.size,rawInt 0,.none,.none] }) rfl
  rw [hz] at q; exact q
 exact ⟨⟨_,he,rfl⟩,h _ he ⟨_,Heap.get?_push_of_some _ (Heap.get?_push_size _ rfl),rfl,rfl⟩ (by rw [Heap.size_push,hz]) fun b o x=>Heap.get?_push_of_some _ (Heap.get?_push_of_some _ x)⟩
end
end LS
namespace LS
open PySem
def ri (l:List Nat):Prop:=l.Pairwise (· < ·)
theorem jX {xs:Array Nat} (h:ri xs.toList) {a b:Nat} (HG:a < b) (hb:b < xs.size) (d e:Nat):xs.getD a d < xs.getD b e:=by
 have ha:a < xs.size:=by omega
 have:=List.pairwise_iff_getElem.mp h a b (by simpa using ha) (by simpa using hb) HG
 simpa [Array.getD,ha,hb] using this
theorem Co {xs:Array Nat} (hs:ri xs.toList) (j:Nat) (fuel:Nat):∀ (lo hi:Nat),hi - lo<=fuel->lo<=hi->hi<=xs.size->(∀ k,k < lo->xs.getD k 0 < j)->(∀ k,hi<=k->k < xs.size->j<=xs.getD k 0)->
  SetTable.below.go xs j fuel lo hi<=xs.size /\ (∀ k,k < SetTable.below.go xs j fuel lo hi->xs.getD k 0 < j) /\ ∀ k,SetTable.below.go xs j fuel lo hi<=k->k < xs.size->j<=xs.getD k 0:=by
 induction fuel with
 | zero=>
   intro lo hi h1 h2 h3 h4 h5
   have e:lo=hi:=Nat.le_antisymm h2 (Nat.le_of_sub_eq_zero (Nat.le_zero.mp h1))
   subst e
   exact ⟨h3,h4,h5⟩
 | succ fuel ih=>
   intro lo hi h1 h2 h3 h4 h5
   rw [SetTable.below.go]
   by_cases hl:lo < hi
   ·rw [if_pos hl]
    have a:lo<=(lo + hi) / 2 /\ (lo + hi) / 2 < hi:=by omega
    dsimp only
    generalize (lo + hi) / 2=m at a
    have hm:m < xs.size:=Nat.lt_of_lt_of_le a.2 h3
    have hg:xs.getD m j=xs.getD m 0:=by simp [Array.getD,hm]
    rw [hg]
    by_cases hc:xs.getD m 0 < j
    ·rw [if_pos hc]
     refine ih _ hi (by omega) a.2 h3 (fun k hk=>?_) h5
     rcases Nat.lt_or_eq_of_le (Nat.le_of_lt_succ hk) with q | q
     ·exact Nat.lt_trans (jX hs q hm 0 0) hc
     ·rw [q]; exact hc
    ·rw [if_neg hc]
     have hc:=Nat.le_of_not_lt hc
     refine ih lo _ (by omega) a.1 (Nat.le_of_lt hm) h4 (fun k hk KY=>?_)
     rcases Nat.lt_or_eq_of_le hk with q | q
     ·exact Nat.le_trans hc (Nat.le_of_lt (jX hs q KY 0 0))
     ·rw [<- q]; exact hc
   ·rw [if_neg hl]
    have e:lo=hi:=Nat.le_antisymm h2 (Nat.le_of_not_lt hl)
    subst e
    exact ⟨h3,h4,h5⟩
theorem below_at {xs:Array Nat} (hs:ri xs.toList) (j:Nat):SetTable.below xs j<=xs.size /\ (∀ k,k < SetTable.below xs j->xs.getD k 0 < j) /\ ∀ k,SetTable.below xs j<=k->k < xs.size->j<=xs.getD k 0:=
 Co hs j xs.size 0 xs.size (by omega) (Nat.zero_le _) (Nat.le_refl _) (fun k hk=>by omega) fun k h1 h2=>by omega
theorem oZ {xs:Array Nat} (hs:ri xs.toList) {i j:Nat} (hi:i<=xs.size) (h1:∀ k,k < i->xs.getD k 0 < j) (h2:∀ k,i<=k->k < xs.size->j<=xs.getD k 0):SetTable.below xs j=i:=by
 obtain ⟨a,b,c⟩:=below_at hs j
 rcases Nat.lt_trichotomy (SetTable.below xs j) i with h | h | h
 ·have:=h1 _ h
  have:=c _ (Nat.le_refl _) (by omega)
  omega
 ·exact h
 ·have:=b i h
  have:=h2 i (Nat.le_refl _) (by omega)
  omega
theorem Cp {xs:Array Nat} (hs:ri xs.toList) {j:Nat} (h:xs[SetTable.below xs j]?≠some j):j∉xs.toList:=by
 intro hm
 obtain ⟨k,hk,e⟩:=List.getElem_of_mem hm
 have KY:k < xs.size:=by simpa using hk
 have ek:xs.getD k 0=j:=by simpa [Array.getD,KY] using e
 have:SetTable.below xs j=k:=oZ hs (Nat.le_of_lt KY) (fun i hi=>by rw [<- ek]; exact jX hs hi KY 0 0) (fun i h1 h2=>by
  by_cases Hv:k=i
  ·subst Hv; omega
  ·have:=jX hs (show k < i by omega) h2 0 0
   omega)
 rw [this] at h
 refine h ?_
 rw [Array.getElem?_eq_getElem KY]
 simpa using e
theorem Fy {t:SetTable} (hs:ri t.place.toList) {j:Nat} (h:t.place[SetTable.below t.place j]?≠some j):ri (t.put j).1.place.toList:=by
 have hn:=Cp hs h
 obtain ⟨a,b,c⟩:=below_at hs j
 show ri (SetTable.insertAt t.place (SetTable.below t.place j) j).toList
 rw [SetTable.toList_insertAt]
 have lE:(t.place.toList.take (SetTable.below t.place j) ++ t.place.toList.drop (SetTable.below t.place j)).Pairwise (· < ·):=by rw [List.take_append_drop]; exact hs
 rw [List.pairwise_append] at lE
 refine List.pairwise_append.mpr ⟨lE.1,List.pairwise_cons.mpr ⟨fun x hx=>?_,lE.2.1⟩,fun x hx y hy=>?_⟩
 ·obtain ⟨k,hk,e⟩:=List.getElem_of_mem hx
  rw [List.getElem_drop] at e
  have yM:SetTable.below t.place j + k < t.place.size:=by
   have:=List.length_drop (i:=SetTable.below t.place j) (l:=t.place.toList)
   have NN:=hk
   rw [this] at NN
   simp at NN
   omega
  have:=c (SetTable.below t.place j + k) (by omega) yM
  have e2:t.place.getD (SetTable.below t.place j + k) 0=x:=by simpa [Array.getD,yM] using e
  have iU:x≠j:=fun z=>hn (by rw [<- z]; exact List.mem_of_mem_drop hx)
  omega
 ·obtain ⟨k,hk,e⟩:=List.getElem_of_mem hx
  have yM:k < SetTable.below t.place j:=by
   have:=List.length_take (i:=SetTable.below t.place j) (l:=t.place.toList)
   omega
  have NN:k < t.place.size:=by omega
  rw [List.getElem_take] at e
  have e2:t.place.getD k 0=x:=by simpa [Array.getD,NN] using e
  have UP:=b k yM
  rw [e2] at UP
  rcases List.mem_cons.mp hy with z | z
  ·rw [z]; exact UP
  ·exact lE.2.2 x hx y z
set_option tactic.hygienic true in
theorem kE {t:SetTable} {f:Nat->Int} {h:Int}:∀ {fuel:Nat} {p:SetTable.Probe} {j:Nat} {dm:Option Nat},(∀ d,p.dummy=some d->t.place[SetTable.below t.place d]?≠some d)->
  SetTable.probe.go t f h fuel p=some (.empty j dm)->t.place[SetTable.below t.place (dm.getD j)]?≠some (dm.getD j)
 | 0,p,j,dm,_,e=>by cases e
 | fuel + 1,p,j,dm,hd,e=>by
   have UQ:∀ q:SetTable.Probe,(t.advance q).dummy=q.dummy:=fun q=>by unfold SetTable.advance; split <;> rfl
   rw [SetTable.probe.go] at e
   have nl:∀ i,t.slot i=.empty \/ t.slot i=.dummy->t.place[SetTable.below t.place i]?≠some i:=by
    intro i hi z
    unfold SetTable.slot at hi
    dsimp only at hi
    rw [z] at hi
    simp at hi
   split at e
   ·rename_i hs
    cases e
    cases hp:p.dummy with
    | none=>exact nl _ (.inl hs)
    | some d=>exact hd d hp
   ·rename_i hs
    refine kE (fun d Bk=>?_) e
    rw [UQ] at Bk
    cases Bk
    exact nl _ (.inr hs)
   ·split at e
    ·cases e
    ·exact kE (fun d Bk=>hd d (by rw [UQ] at Bk; exact Bk)) e
theorem jY (n:Nat):ri (Array.range n).toList:=by rw [Array.toList_range]; exact List.pairwise_lt_range
theorem qw {t:SetTable} {n:Nat} (h:ri t.place.toList):ri (t.orStandIn n).place.toList /\ (t.orStandIn n).led=t.led:=by
 unfold SetTable.orStandIn
 split
 ·exact ⟨h,rfl⟩
 ·exact ⟨jY n,rfl⟩
set_option tactic.hygienic true in
theorem wW {t:SetTable} {es:Array (Int×Value)} {h:Int} {x:Value} (hs:ri t.place.toList):ri (layNew t es h x).2.1.place.toList /\ (layNew t es h x).2.1.led=t.led:=by
 unfold layNew
 split
 ·rename_i slot wd e
  unfold SetTable.freeSlot at e
  split at e
  ·rename_i j dm ep
   cases e
   have:=kE (t:=t) (fun d z=>by cases z) ep
   obtain ⟨a,b⟩:=qw (n:=(SetTable.insertAt es (t.put (dm.getD j)).2 (h,x)).size) (Fy hs this)
   exact ⟨a,b⟩
  ·cases e
 ·exact ⟨jY _,rfl⟩
set_option tactic.hygienic true in
theorem sk {t:SetTable} {es:Array (Int×Value)} {n:Nat}:ri (relayAll t es n).2.1.place.toList /\ (relayAll t es n).2.1.led=t.led:=by
 unfold relayAll
 split
 ·rename_i t' order e
  dsimp only
  split
  ·unfold SetTable.relaid SetTable.laid at e
   obtain ⟨owner,_,e2⟩:=Option.bind_eq_some_iff.mp e
   cases e2
   refine ⟨?_,rfl⟩
   show ri (List.map _ _)
   refine List.pairwise_map.mpr (List.pairwise_filterMap.mpr ?_)
   refine List.pairwise_lt_range.imp fun {a b} HG x hx y hy=>?_
   cases ea:owner.getD a none with
   | none=>rw [ea] at hx; cases hx
   | some u=>
     cases eb:owner.getD b none with
     | none=>rw [eb] at hy; cases hy
     | some v=>
       rw [ea] at hx; rw [eb] at hy
       cases hx; cases hy
       exact HG
  ·exact ⟨jY _,rfl⟩
 ·exact ⟨jY _,rfl⟩
end LS
namespace LS
open PySem PyProof.Rows
def iv:Value->Int
 | .int n _=>n
 | _=>0
theorem c6:∀ {vs:List Value} {ns:List Int},IntsAre vs ns↔(∀ v∈vs,∃ n t,v=.int n t) /\ ns=vs.map iv
 | [],ns=>⟨fun h=>by cases h; exact ⟨fun v hv=>by simp at hv,rfl⟩,fun ⟨_,h⟩=>by subst h; exact .nil⟩
 | v :: vs,ns=>⟨fun h=>by
     cases h with
     | cons n t h=>
       obtain ⟨h1,h2⟩:=c6.mp h
       refine ⟨fun u hu=>?_,by rw [h2]; rfl⟩
       rcases List.mem_cons.mp hu with z | z
       ·exact ⟨n,t,z⟩
       ·exact h1 u z,fun ⟨h1,h2⟩=>by
     obtain ⟨n,t,rfl⟩:=h1 v List.mem_cons_self
     subst h2
     exact .cons n t (c6.mpr ⟨fun u hu=>h1 u (List.mem_cons_of_mem _ hu),rfl⟩)⟩
theorem mI {vs OR:List Value} {ns:List Int} (h:IntsAre vs ns) (p:OR.Perm vs):∃ lr,IntsAre OR lr /\ lr.Perm ns:=by
 obtain ⟨h1,h2⟩:=c6.mp h
 exact ⟨OR.map iv,c6.mpr ⟨fun v hv=>h1 v (p.mem_iff.mp hv),rfl⟩,by rw [h2]; exact p.map iv⟩
def iE (prog:Program) (w:World) (h:Heap) (a:Addr) (led:Bool) (ns:List Int):Prop:=∃ o es ep t,h.get? a=some o /\ o.ExactSet /\ o.data=.set es ep t /\ ElemsOf (intKind prog w) es.toList /\
 IntsAre (es.toList.map (·.2)) ns /\ ns.Nodup /\ es.size < scanBound /\ t.fits es.size=true /\ t.led=led /\ ri t.place.toList
section
variable {prog:Program} {w:World} {A:Around} {E:Value->Shared->Prop} {s:Shared} {a:Addr} {led:Bool} {ns:List Int}
theorem iE.keeps {h h':Heap} (x:iE prog w h a led ns) (k:∀ o,h.get? a=some o->h'.get? a=some o):iE prog w h' a led ns:=by
 obtain ⟨o,es,ep,t,ho,r⟩:=x
 exact ⟨o,es,ep,t,k o ho,r⟩
theorem uE {h:Heap} {o:Obj} {es:Array (Int×Value)} {ep:Nat} {t:SetTable} (ho:h.get? a=some o) (hex:o.ExactSet) (hd:o.data=.set es ep t) {tX:Array (Int×Value)} {t':SetTable} {lr:List Int}
  (h1:ElemsOf (intKind prog w) tX.toList) (h2:IntsAre (tX.toList.map (·.2)) lr) (h3:lr.Nodup) (h4:tX.size < scanBound) (h5:t'.fits tX.size=true) (h6:t'.led=led) (h7:ri t'.place.toList):
  (h.update a (Obj.putSet tX t')).get? a=some { o with data:=.set tX (ep + 1) t' } /\ iE prog w (h.update a (Obj.putSet tX t')) a led lr:=by
 have hg:(h.update a (Obj.putSet tX t')).get? a=some { o with data:=.set tX (ep + 1) t' }:=by
  have q:=Heap.get?_update_self (Obj.putSet tX t') ho (by rw [putSet_of tX t' hd]; rfl)
  rwa [putSet_of tX t' hd] at q
 exact ⟨hg,_,tX,ep + 1,t',hg,hex,rfl,h1,h2,h3,h4,h5,h6,h7⟩
theorem rj {g:Bool->Sem Unit} (hg:∀ (b:Bool) (bu:Shared) (Q':Unit->Shared->Prop),Q' () bu->wpAny (model prog w) A (g b) Q' E bu) {o:Obj} {es:Array (Int×Value)} {ep:Nat} {t:SetTable}
  (ho:s.heap.get? a=some o) (hex:o.ExactSet) (hd:o.data=.set es ep t) {nN:Array (Int×Value)} {t2:SetTable} {Jq:List Int} (h1:ElemsOf (intKind prog w) nN.toList) (h2:IntsAre (nN.toList.map (·.2)) Jq) (h3:Jq.Nodup) (h4:nN.size < scanBound)
  (h5:t2.fits nN.size=true) (h6:t2.led=led) (h7:ri t2.place.toList) {wd:Bool} {R:Option Bool->Shared->Prop}
  (h:∀ h' lr,Heap.SameBut a s.heap h'->iE prog w h' a led lr->lr.Perm Jq->R (some true) { s with heap:=h' }):
  wpAny (model prog w) A (do
    storeSet a nN t2
    if (!wd && t2.tooFull)=true then do
        g (relayAll t2 nN (SetTable.grown nN.size)).2.2
        storeSet a (relayAll t2 nN (SetTable.grown nN.size)).1 (relayAll t2 nN (SetTable.grown nN.size)).2.1
        pure (some true)
     else pure (some true)) R E s:=by
 refine wpAny_bind (wpAny_storeSet_of ho hd ?_ (fits_of_scanBound h4))
 obtain ⟨ml,S1⟩:=uE (led:=led) ho hex hd h1 h2 h3 h4 h5 h6 h7
 have b1:=Heap.SameBut.update s.heap a (Obj.putSet nN t2)
 split
 ·have hp:=relayAll_perm t2 nN (SetTable.grown nN.size)
  have hf:=relayAll_fits t2 nN (SetTable.grown nN.size)
  obtain ⟨hr,hl⟩:=sk (t:=t2) (es:=nN) (n:=SetTable.grown nN.size)
  generalize relayAll t2 nN (SetTable.grown nN.size)=Z at hp hf hr hl ⊢
  obtain ⟨NO,t3,OS⟩:=Z
  dsimp only at hp hf hr hl ⊢
  obtain ⟨V5,i2,p2⟩:=mI h2 (hp.map (·.2))
  have hz:NO.size=nN.size:=by rw [<- Array.length_toList,hp.length_eq,Array.length_toList]
  have b2:NO.size < scanBound:=by rw [hz]; exact h4
  refine wpAny_bind (hg _ _ _ (wpAny_bind (wpAny_storeSet_of ml rfl ?_ (fits_of_scanBound b2))))
  obtain ⟨_,S2⟩:=uE (led:=led) ml hex rfl (h1.perm hp) i2 (p2.nodup_iff.mpr h3) b2 hf (hl.trans h6) hr
  exact wpAny_pure (h _ V5 (b1.trans (Heap.SameBut.update _ a _)) S2 p2)
 ·exact wpAny_pure (h _ Jq b1 S1 (.refl _))
theorem uF {es:List (Int×Value)} {i:Int} (h:IntsAre (es.map (·.2)) ns):i∈ns↔∃ e∈es,Value.isInt i e.2=true:=by
 obtain ⟨h1,h2⟩:=c6.mp h
 subst h2
 constructor
 ·intro hm
  obtain ⟨v,hv,e⟩:=List.mem_map.mp hm
  obtain ⟨x,hx,rfl⟩:=List.mem_map.mp hv
  obtain ⟨n,t,q⟩:=h1 _ hv
  rw [q] at e
  cases e
  exact ⟨x,hx,by rw [q]; simp [Value.isInt,iv]⟩
 ·rintro ⟨e,he,q⟩
  obtain ⟨t,z⟩:=Value.isInt_shape q
  exact List.mem_map.mpr ⟨e.2,List.mem_map.mpr ⟨e,he,rfl⟩,by rw [z]; rfl⟩
theorem Cq {i:Int} {tk:Tok} {Q:Bool->Shared->Prop} (hS:iE prog w s.heap a led ns) (room:ns.length + 1 < scanBound)
  (h:∀ h' lr b,Heap.SameBut a s.heap h'->iE prog w h' a led lr->(∀ k,k∈lr↔k∈ns \/ k=i)->lr.length<=ns.length + 1->Q b { s with heap:=h' }):
  wpAny (model prog w) A (setAddHashed a (.int i tk) (hashInt i)) Q E s:=by
 obtain ⟨o,es,ep,t,ho,hex,hd,h1,h2,h3,h4,h5,h6,h7⟩:=hS
 have hlen:ns.length=es.size:=by
  obtain ⟨_,e⟩:=c6.mp h2
  rw [e]; simp
 have hk:(intKind prog w).is i (.int i tk)=true:=intKind_is prog w i tk
 have OT:(Value.int i tk).scannable=true:=rfl
 unfold setAddHashed setAddHashedIn
 refine wpAny_holding (wpAny_bind (wpAny_setState_of ho hd h5 ?_))
 dsimp only
 rw [byScan_of OT h4 h1]
 simp only [↓reduceIte]
 unfold setAddByScan
 refine wpAny_bind (wpAny_bind (wpAny_rule (wpAny_bind (wpAny_setScan_of (knd:=intKind prog w) (k:=i) hk ho hd h5 h1 ?_))))
 cases hf:List.findIdx? (fun e=>(intKind prog w).is i e.2) es.toList with
 | some j=>
   dsimp only
   obtain ⟨hj,V6,_⟩:=List.findIdx?_eq_some_iff_getElem.mp hf
   have hm:i∈ns:=(uF h2).mpr ⟨_,List.getElem_mem hj,V6⟩
   refine wpAny_pure (wpAny_pure ?_)
   have q:=h s.heap ns false (Heap.SameBut.refl a s.heap) ⟨o,es,ep,t,ho,hex,hd,h1,h2,h3,h4,h5,h6,h7⟩ (fun k=>⟨.inl,fun z=>z.elim id fun e=>e ▸ hm⟩) (Nat.le_succ _)
   exact q
 | none=>
   dsimp only
   have hn:i∉ns:=fun hm=>by
    obtain ⟨e,he,q⟩:=(uF h2).mp hm
    have z:=List.findIdx?_eq_none_iff.mp hf e he
    rw [show (intKind prog w).is i e.2=true from q] at z
    cases z
   have gw:∀ (b:Bool) {bu:Shared} {Q':Unit->Shared->Prop},Q' () bu->wpAny (model prog w) A (match b with | true=>rule "set.scan.the-table-gave-way" | false=>pure ()) Q' E bu:=
    fun b bu Q' hq=>by cases b <;> first | exact wpAny_pure hq | exact wpAny_rule hq
   have hp:=layNew_perm t es (hashInt i) (.int i tk)
   have Ms:=layNew_fits t es (hashInt i) (.int i tk)
   obtain ⟨hr,hl⟩:=wW (t:=t) (es:=es) (h:=hashInt i) (x:=.int i tk) h7
   generalize layNew t es (hashInt i) (.int i tk)=Z at hp Ms hr hl ⊢
   obtain ⟨nN,t1,wd,OS⟩:=Z
   dsimp only at hp Ms hr hl ⊢
   rw [Array.toList_push] at hp
   have e1:ElemsOf (intKind prog w) nN.toList:=(h1.push hk OT).perm hp
   have i0:IntsAre ((es.toList ++ [(hashInt i,Value.int i tk)]).map (·.2)) (ns ++ [i]):=by
    obtain ⟨x1,x2⟩:=c6.mp h2
    refine c6.mpr ⟨fun v hv=>?_,by rw [x2]; simp [iv]⟩
    rw [List.map_append] at hv
    rcases List.mem_append.mp hv with z | z
    ·exact x1 v z
    ·simp at z; exact ⟨i,tk,z⟩
   obtain ⟨Jq,i1,p1⟩:=mI i0 (hp.map (·.2))
   have nd:Jq.Nodup:=p1.nodup_iff.mpr (by
    rw [List.nodup_append]
    exact ⟨h3,by simp,fun x hx y hy=>by simp at hy; rw [hy]; exact fun z=>hn (z ▸ hx)⟩)
   have hz:nN.size=es.size + 1:=by rw [<- Array.length_toList,hp.length_eq,List.length_append,Array.length_toList]; rfl
   have b1:nN.size < scanBound:=by omega
   have fin:∀ h' lr,Heap.SameBut a s.heap h'->iE prog w h' a led lr->lr.Perm Jq->Q true { s with heap:=h' }:=fun h' lr sb S p=>by
    refine h h' lr true sb S (fun k=>?_) ?_
    ·rw [p.mem_iff,p1.mem_iff]; simp
    ·rw [p.length_eq,p1.length_eq]; simp
   refine wpAny_bind (gw _ ?_)
   split
   ·rw [hashByValue_scannable 8 OT]
    refine wpAny_bind (wpAny_pure ?_)
    refine rj (led:=led) ?_ ho hex hd e1 i1 nd b1 ?_ ?_ ?_ fun h' lr sb S p=>?_
    ·intro b bu Q' hq; cases b <;> first | exact wpAny_pure hq | exact wpAny_rule hq
    ·split
     ·exact Ms
     ·exact SetTable.fits_plain_off Ms
    ·split <;> exact hl.trans h6
    ·split <;> exact hr
    ·dsimp only; exact wpAny_pure (fin h' lr sb S p)
   ·refine wpAny_bind (wpAny_pure ?_)
    simp only [↓reduceIte]
    refine rj (led:=led) ?_ ho hex hd e1 i1 nd b1 Ms (hl.trans h6) hr fun h' lr sb S p=>?_
    ·intro b bu Q' hq; cases b <;> first | exact wpAny_pure hq | exact wpAny_rule hq
    ·dsimp only; exact wpAny_pure (fin h' lr sb S p)
end
end LS
namespace LS
open PySem PySem.Spec PyProof.Rows
section
variable {prog:Program} {w:World} {A:Around} {E:Value->Shared->Prop} {s:Shared}
abbrev jA (w:World):Bool:= !w.params.followText "set-order"
abbrev fB (w:World):Obj:={ cls:=.type "set",dict:=none,data:=.set #[] 0 (.fresh 0 0 (jA w)) }
theorem Ao {h:Heap} {a:Addr} (e:h.get? a=some (fB w)):iE prog w h a (jA w) []:=
 ⟨_,#[],0,_,e,⟨rfl,rfl,rfl⟩,rfl,fun x hx=>by simp at hx,.nil,.nil,by decide,rfl,rfl,List.Pairwise.nil⟩
theorem Fz (a:Value) {Q₁:Value->Shared->Prop} (h:Q₁ (.ref s.heap.objs.size) { s with heap:=s.heap.push (fB w) }):
  codeAny (model prog w) A (.call (.builtin "set.__new__") ⟨[.type "set",a],[]⟩) (wants Q₁ E) s:=by
 refine codeAny_of_tree ?_
 show wpAny _ A.in1 (checkBuiltinCall "set.__new__" ⟨[.type "set",a],[]⟩ >>= fun _=>again (.builtin "set.__new__" ⟨[.type "set",a],[]⟩)) _ _ s
 refine wpAny_bind (wpAny_of_eq (PySem.F.newCall_set_1 a) (wpAny_pure ⟨plainId_quiet PySem.F.plain_set_new _,codeAny_builtin PySem.F.entry_set_new ?_⟩))
 rw [Around.under_plainId PySem.F.plain_set_new _]
 unfold Builtin.«set.__new__» Builtin.Frozenset.newClass
 have uD:=sub_set_self
 obtain ⟨hp,g,d,tk,os⟩:=s
 dsimp only
 wp_walk
 refine wpAny_askSetting (wpAny_pure ?_)
 dsimp only
 simp only [newObj]
 exact wpAny_bind (wpAny_alloc (wpAny_pure (wpAny_pure h)))
end
section
variable {prog:Program} {w:World} {A:Around} {R:Result->Shared->Prop} {I:Addr} {fp wr:List Addr} {G:Array GenState->Array GenState->Prop} {n:Nat} {P:Nat->Value->Prop} {St:Nat->Shared->Prop} {led:Bool}
theorem Cr (W:WalksS prog w A.in1 I fp wr G n P St) (S:Addr) (Jr:S∉fp) (val:Nat->Int) (Ap:∀ i v,P i v->∃ t,v=.int (val i) t) (hb:n + 1 < scanBound):
  ∀ (k i:Nat) (s:Shared) (ns:List Int),n - i=k->i<=n->St i s->iE prog w s.heap S led ns->ns.length<=i->(∀ x,x∈ns↔∃ j,j < i /\ val j=x)->
    (∀ s' lr,Moved (S :: wr) G s s'->iE prog w s'.heap S led lr->lr.length<=n->(∀ x,x∈lr↔∃ j,j < n /\ val j=x)->R (.ok (.ret .none)) s')->
    codeAny (model prog w) A (.builtin "set.update.loop" ⟨[.ref S,.ref I],[]⟩) R s:=by
 have UR:S∉wr:=fun h=>Jr (W.sub _ h)
 have uD:∀ b∈wr,b∈S :: wr:=fun b hb=>List.mem_cons_of_mem _ hb
 intro k
 induction k with
 | zero=>
   intro i s ns hk hi st hS hl hm hR
   have OU:i=n:=by omega
   subst OU
   refine codeAny_builtin PyProof.Rows.F.entry_set_update_loop ?_
   rw [Around.under_plainId PyProof.Rows.F.plain_set_update_loop _]
   show wpAny _ A.in1 (pyNext (.ref I) >>= _) _ _ s
   refine wpAny_bind (W.done s _ _ st fun s' mv=>?_)
   show wpAny _ A.in1 (ret Value.none) _ _ s'
   exact wpAny_pure (hR s' ns (mv.mono uD) (hS.keeps fun o e=>mv.heap S o UR e) hl hm)
 | succ k ih=>
   intro i s ns hk hi st hS hl hm hR
   have g5:i < n:=by omega
   refine codeAny_builtin PyProof.Rows.F.entry_set_update_loop ?_
   rw [Around.under_plainId PyProof.Rows.F.plain_set_update_loop _]
   show wpAny _ A.in1 (pyNext (.ref I) >>= _) _ _ s
   refine wpAny_bind (W.item i s _ _ g5 st fun v s' hP qj mv=>?_)
   obtain ⟨t,rfl⟩:=Ap i v hP
   have KZ:iE prog w s'.heap S led ns:=hS.keeps fun o e=>mv.heap S o UR e
   show wpAny _ A.in1 (holding [Value.int (val i) t] (setAdd S (.int (val i) t)) >>= _) _ _ s'
   refine wpAny_bind (wpAny_holding ?_)
   unfold setAdd
   refine wpAny_holding (wpAny_bind ((intKind prog w).pyHash (k:=val i) (intKind_is _ _ _ _) ?_))
   refine Cq (s:={ s' with toks:=s'.toks + 1 }) KZ (by omega) fun h' lr b sb S2 Js BS=>?_
   refine wpAny_pure ⟨plainId_quiet PyProof.Rows.F.plain_set_update_loop _,ih (i + 1) _ lr (by omega) g5 (W.frame _ s' _ _ qj (Nat.le_succ _) fun b hb o e=>?_) S2 (by omega) (fun x=>?_) fun LJ OV OW S3 l3 m3=>?_⟩
   ·rw [sb.2 b (fun z:b=S=>Jr (by rw [<- z]; exact hb))]; exact e
   ·rw [Js,hm]
    constructor
    ·rintro (⟨j,hj,e⟩ | e)
     ·exact ⟨j,by omega,e⟩
     ·exact ⟨i,by omega,e.symm⟩
    ·rintro ⟨j,hj,e⟩
     by_cases V7:j=i
     ·subst V7; exact .inr e.symm
     ·exact .inl ⟨j,by omega,e⟩
   ·refine hR LJ OV (Moved.trans W.gtrans ((mv.mono uD).then_heap (Nat.le_succ _) fun b o hb e=>?_) OW) S3 l3 m3
    rw [sb.2 b (fun z:b=S=>hb (by rw [z]; exact List.mem_cons_self))]; exact e
end
section
variable {prog:Program} {w:World} {A:Around} {E:Value->Shared->Prop} {s:Shared}
structure wX (prog:Program) (w:World) (h:Heap) (r:Addr) (items:Array Value) (T:String) (oI:Obj) (St:Addr->Nat->Heap->Prop):Prop where
 ty:∃ o,h.get? r=some o /\ o.cls=.type T
 Jt:isSubtype (.type T) (.type "set")=pure false
 Ju:isSubtype (.type T) (.type "frozenset")=pure false
 nd:(Value.type T == Value.type "dict")=false
 iter:∀ (A':Around) (s':Shared) (Q:Value->Shared->Prop) (E:Value->Shared->Prop),(∀ o,h.get? r=some o->s'.heap.get? r=some o)->Q (.ref s'.heap.objs.size) { s' with heap:=s'.heap.push oI }->wpAny (model prog w) A' (pyIter (.ref r)) Q E s'
 walk:∀ (A':Around) (I:Addr),A'.handled=none->r≠I->Walks prog w A' I [I,r] [I] items.size (fun i v=>items[i]?=some v) (St I)
 st:∀ h':Heap,(∀ o,h.get? r=some o->h'.get? r=some o)->St h'.objs.size 0 (h'.push oI)
theorem src_list {h:Heap} {l:Addr} {items:Array Value} (hl:h.IsList l items):wX prog w h l items "list" { cls:=.type "list_iterator",data:=.fields #[.ref l,.int 0 0] } (fun I i h=>h.IsListIter I l i /\ h.IsList l items) where
 ty:=let ⟨o,e,c,_⟩:=hl; ⟨o,e,c⟩
 Jt:=PySem.F.sub_list_set
 Ju:=PySem.F.sub_list_frozenset
 nd:=by decide
 iter:=fun A' s' Q E k q=>wpAny_pyIter_list (hl.at k) q
 walk:=fun A' I hh iU=>Walks.list hh I l iU items
 st:=fun h' k=>⟨⟨_,Heap.get?_push_size _ rfl,rfl,rfl⟩,(hl.at k).push _⟩
theorem src_tuple {h:Heap} {l:Addr} {items:Array Value} (hl:h.IsTuple l items):wX prog w h l items "tuple" { cls:=.type "tuple_iterator",data:=.fields #[.ref l,.int 0 0] } (fun I i h=>h.IsTupleIter I l i /\ h.IsTuple l items) where
 ty:=let ⟨o,e,c,_⟩:=hl; ⟨o,e,c⟩
 Jt:=by rw [isSubtype_type]; kernel_rfl
 Ju:=by rw [isSubtype_type]; kernel_rfl
 nd:=by decide
 iter:=fun A' s' Q E k q=>wpAny_pyIter_tuple (hl.at k) q
 walk:=fun A' I hh iU=>Walks.tuple hh I l iU items
 st:=fun h' k=>⟨⟨_,Heap.get?_push_size _ rfl,rfl,rfl⟩,(hl.at k).push _⟩
set_option maxHeartbeats 3200000 in
theorem uG {r:Addr} {items:Array Value} {ms:List Int} {T:String} {oI:Obj} {St:Addr->Nat->Heap->Prop} {Q:Value->Shared->Prop} (hh:A.handled=none) (src:wX prog w s.heap r items T oI St) (hi:IntsAre items.toList ms) (hb:items.size + 1 < scanBound)
  (h:∀ (h':Heap) (tk:Nat) (ns:List Int),iE prog w h' s.heap.objs.size (jA w) ns->(∀ x,x∈ns↔x∈ms)->ns.length<=ms.length->(∀ b o,s.heap.get? b=some o->h'.get? b=some o)->Q (.ref s.heap.objs.size) { s with heap:=h',toks:=tk }):
  wpAny (model prog w) A (call (.type "set") [.ref r]) Q E s:=by
 obtain ⟨c,tl,V8⟩:=PySem.F.called_set.mro
 have US:=PySem.F.called_set.made
 have uD:=PySem.F.called_set.sub
 refine wpAny_call (codeAny_of_tree ?_)
 show wpAny _ _ (callAny (.type "set") _) _ _ _
 refine wpAny_pure ⟨Code.quiet_builtin _ (by decide +kernel),codeAny_builtin PySem.F.entry_type_call ?_⟩
 rw [Around.under_plain (weight_type_call_type "set" [.ref r] []) rfl]
 have h1:=PySem.F.called_set.notType
 have h2:=PySem.F.called_set.canCreate
 have ZD:=PySem.F.typeCall_set_1 (.ref r)
 repeat (any_goals (first | assumption | wp_step))
 refine codeAny_mono (Fz (.ref r) (E:=E) (Q₁:=fun obj bu=>obj=.ref s.heap.objs.size /\ bu={ s with heap:=s.heap.push (fB w) }) ⟨rfl,rfl⟩) fun q bu hq=>?_
 cases q with
 | error e=>exact hq
 | ok fl=>
   cases fl with
   | ret obj=>
     obtain ⟨rfl,rfl⟩:=hq
     have hS:(s.heap.push (fB w)).get? s.heap.objs.size=some (fB w):=Heap.get?_push_size _ rfl
     have hT:Shared.TypeIs { s with heap:=s.heap.push (fB w) } (.ref s.heap.objs.size) "set":=⟨_,hS,rfl⟩
     have ZE:=PySem.F.called_set.init.lookup
     have ZF:=PySem.F.called_set.init.bind (.ref s.heap.objs.size)
     repeat (any_goals (first | assumption | wp_step))
     refine codeAny_mono (codeAny_call_builtin (R:=wants (fun v kc=>v=.none /\ ∃ h' tk ns,kc={ s with heap:=h',toks:=tk } /\ iE prog w h' s.heap.objs.size (jA w) ns /\ (∀ x,x∈ns↔x∈ms) /\ ns.length<=ms.length /\ ∀ b o,s.heap.get? b=some o->h'.get? b=some o) E)
      PySem.F.called_set.init.plain PySem.F.entry_set_init (check_set_init_1 hT ?_)) fun OX kc Cs=>?_
     ·obtain ⟨OY,HH,mz⟩:=src.ty
      obtain ⟨V9,Mt,Mu,Jv⟩:=OY
      simp only at mz
      subst mz
      have Wa:(s.heap.push (fB w)).get? r=some { cls:=.type T,dict:=Mt,data:=Mu,slots:=Jv }:=Heap.get?_push_of_some _ HH
      have Ct:=src.Jt
      have kb:=src.Ju
      have iU:=src.nd
      unfold Builtin.«set.__init__» noKeywords Builtin.Frozenset.updateFrom
      generalize Wb:pyIter=PI
      wp_walk
      subst Wb
      refine src.iter _ _ _ _ (fun o e=>Heap.get?_push_of_some _ e) ?_
      refine wpAny_bind (wpAny_runValue ?_)
      have UT:r < s.heap.objs.size:=Heap.lt_size HH
      have Wc:A.in1.in1.in1.handled=none:=by simp [hh]
      have hz:(s.heap.push (fB w)).objs.size=s.heap.objs.size + 1:=Heap.size_push _ _
      have OZ:r≠(s.heap.push (fB w)).objs.size:=by rw [hz]; exact Nat.ne_of_lt (Nat.lt_succ_of_lt UT)
      have Jr:s.heap.objs.size∉[(s.heap.push (fB w)).objs.size,r]:=by
       rw [hz]; simp only [List.mem_cons,List.not_mem_nil,or_false,not_or]
       exact ⟨Nat.ne_of_lt (Nat.lt_succ_self _),Nat.ne_of_gt UT⟩
      have Ap:∀ (i:Nat) (v:Value),items[i]?=some v->∃ t,v=.int ((fun i=>ms.getD i 0) i) t:=fun i v hv=>IntsAre.int_at hi i v (by rw [Array.getElem?_toList]; exact hv)
      have hlen:ms.length=items.size:=by have:=(c6.mp hi).2; rw [this]; simp
      refine Cr ((src.walk _ _ Wc OZ).toS) s.heap.objs.size Jr (fun i=>ms.getD i 0) Ap hb (items.size - 0) 0 _ [] (by omega) (Nat.zero_le _) (src.st _ fun o e=>Heap.get?_push_of_some _ e) (Ao (Heap.get?_push_of_some _ hS)) (Nat.le_refl _) (fun x=>by simp) ?_
      intro s' lr mv S' l' m'
      obtain ⟨h',g',d',Wd,Oy⟩:=s'
      have eg:g'=s.gens:=mv.gens
      have ed:d'=s.drawn:=mv.drawn
      have eo:Oy=s.os:=mv.os
      subst eg ed eo
      show wpAny _ _ _ _ _ _
      refine wpAny_pure ?_
      show wpAny _ _ (ret Value.none) _ _ _
      refine wpAny_pure ⟨rfl,h',Wd,lr,rfl,S',fun x=>?_,by omega,fun b o e=>?_⟩
      ·rw [m',<- hlen]
       constructor
       ·rintro ⟨j,hj,e⟩
        rw [List.getD_eq_getElem?_getD,List.getElem?_eq_getElem hj] at e
        rw [<- e]; exact List.getElem_mem hj
       ·intro hx
        obtain ⟨j,hj,e⟩:=List.getElem_of_mem hx
        exact ⟨j,hj,by rw [List.getD_eq_getElem?_getD,List.getElem?_eq_getElem hj]; exact e⟩
      ·have Mv:=Heap.lt_size e
       refine mv.heap b o ?_ (Heap.get?_push_of_some _ (Heap.get?_push_of_some _ e))
       rw [hz]
       simp only [List.mem_cons,List.not_mem_nil,or_false,not_or]
       exact ⟨Nat.ne_of_lt Mv,Nat.ne_of_lt (Nat.lt_succ_of_lt Mv)⟩
     ·cases OX with
      | error e=>exact Cs
      | ok Mw=>
        cases Mw with
        | ret v=>
          obtain ⟨rfl,h',tk,ns,rfl,S',m',l',k'⟩:=Cs
          repeat (any_goals (first | assumption | wp_step))
          exact h _ _ ns S' m' l' k'
        | _=>exact Cs.elim
   | _=>exact hq.elim
end
end LS
namespace LS
open PySem PyProof.Rows
set_option maxRecDepth 100000
theorem bF:Slot "set_iterator" "__next__" "set_iterator.__next__":=
 .of (owner:="set_iterator") (n:="__next__") (by rw [typeLookup_type,builtinLookup_eq_fast]; kernel_rfl) (by decide +kernel) (by decide +kernel) (by decide +kernel) (by first | exact .inl (by decide +kernel) | exact .inr (by decide +kernel)) (by rw [isSubtype_type]; kernel_rfl)
theorem lP:Slot "set_iterator" "__iter__" "set_iterator.__iter__":=
 .of (owner:="set_iterator") (n:="__iter__") (by rw [typeLookup_type,builtinLookup_eq_fast]; kernel_rfl) (by decide +kernel) (by decide +kernel) (by decide +kernel) (by first | exact .inl (by decide +kernel) | exact .inr (by decide +kernel)) (by rw [isSubtype_type]; kernel_rfl)
theorem fD:entryFor table "set_iterator.__next__"=some Builtin.«set_iterator.__next__»:=entryFor_of_tree (by kernel_rfl)
theorem qy:entryFor table "set_iterator.__iter__"=some Builtin.«dict_keyiterator.__iter__»:=
 entryFor_alias (id':="dict_keyiterator.__iter__") (by kernel_rfl) (by first | rfl | decide +kernel | (unfold String.splitOn; simp +decide [String.splitOnAux])) (by decide +kernel) (by kernel_rfl)
theorem o3:entryFor table "set.__iter__"=some Builtin.«frozenset.__iter__»:=
 entryFor_alias (id':="frozenset.__iter__") (by kernel_rfl) (by first | rfl | decide +kernel | (unfold String.splitOn; simp +decide [String.splitOnAux])) (by decide +kernel) (by kernel_rfl)
theorem uH:Manifest.owners.lookup (String.ofList ['r','o','t','a','r','e','t','i','_','t','e','s'].reverse)=some Manifest.sig_set_iterator:=by kernel_rfl
theorem gu (a:Value):argsOk "set_iterator.__next__" ⟨[a],[]⟩:=by
 unfold argsOk; rw [signature?_of (id:="set_iterator.__next__") (n:=['_','_','t','x','e','n','_','_']) (o:=['r','o','t','a','r','e','t','i','_','t','e','s']) (by kernel_rfl) uH]; kernel_rfl
theorem so (a:Value):argsOk "set_iterator.__iter__" ⟨[a],[]⟩:=by
 unfold argsOk; rw [signature?_of (id:="set_iterator.__iter__") (n:=['_','_','r','e','t','i','_','_']) (o:=['r','o','t','a','r','e','t','i','_','t','e','s']) (by kernel_rfl) uH]; kernel_rfl
def iY (h:Heap) (it a:Addr) (first:Value) (i n ep:Nat):Prop:=∃ o,h.get? it=some o /\ o.cls=.type "set_iterator" /\ o.data=.fields #[first,.int i 0,.ref a,.int n 0,.int ep 0]
section
variable {prog:Program} {w:World} {A:Around} {E:Value->Shared->Prop} {s:Shared} {it a:Addr} {first:Value} {i n ep:Nat}
theorem iY.at {h h':Heap} (x:iY h it a first i n ep) (k:∀ o,h.get? it=some o->h'.get? it=some o):iY h' it a first i n ep:=let ⟨o,e,r⟩:=x; ⟨o,k o e,r⟩
theorem iY.typeIs (x:iY s.heap it a first i n ep):s.TypeIs (.ref it) "set_iterator":=let ⟨o,e,c,_⟩:=x; ⟨o,e,c⟩
def eY (h:Heap) (a:Addr) (es:Array (Int×Value)) (ep:Nat) (t:SetTable):Prop:=∃ o,h.get? a=some o /\ o.ExactSet /\ o.data=.set es ep t
theorem eY.at {h h':Heap} {es:Array (Int×Value)} {t:SetTable} (x:eY h a es ep t) (k:∀ o,h.get? a=some o->h'.get? a=some o):eY h' a es ep t:=let ⟨o,e,r⟩:=x; ⟨o,k o e,r⟩
theorem sr (hit:iY s.heap it a first i n ep) {Q:Value->Shared->Prop} (h:Q (.ref it) s):wpAny (model prog w) A (pyIter (.ref it)) Q E s:=by
 refine wpAny_pyIter_slot hit.typeIs lP (wpAny_call_entry lP hit.typeIs qy ?_ (so _))
 show wpAny _ _ (ret (.ref it)) _ _ s
 exact wpAny_pure ⟨_,rfl,"set_iterator",_,hit.typeIs,bF.lookup,h⟩
variable {es:Array (Int×Value)} {t:SetTable} {slot:Nat}
theorem yZ {x:Value} {next:Nat} {Q:Option Value->Shared->Prop} (hit:iY s.heap it a (.int slot 0) i n ep) (hS:eY s.heap a es ep t) (hf:t.fits es.size=true) (hn:es.size=n)
  (hx:∀ (A':Around) (Q':Option (Value×Nat)->Shared->Prop) (E':Value->Shared->Prop),Q' (some (x,next)) s->wpAny (model prog w) A' (setNext a slot i ep) Q' E' s)
  (hQ:∀ h',iY h' it a (.int next 0) (i + 1) n ep->Heap.SameBut it s.heap h'->Q (some x) { s with heap:=h' }):wpAny (model prog w) A (pyNext (.ref it)) Q E s:=by
 obtain ⟨o,ho,hc,hd⟩:=id hit
 obtain ⟨os,HI,hex,HJ⟩:=id hS
 unfold pyNext
 refine wpAny_bind (wpAny_attempt (wpAny_callSpecial?_slot (name:=Str.ofString "__next__") hit.typeIs bF (wpAny_call_entry bF hit.typeIs fD ?_ (gu _))))
 unfold Builtin.«set_iterator.__next__»
 refine wpAny_bind (wpAny_pure ?_)
 dsimp only
 refine wpAny_bind (wpAny_fieldsOf ho hd ?_)
 dsimp only
 refine wpAny_bind (wpAny_setEntries_of HI HJ hf ?_)
 rw [if_neg (by rw [hn]; simp)]
 refine wpAny_bind ?_
 simp only [Int.toNat_natCast]
 refine hx _ _ _ ?_
 dsimp only
 refine wpAny_bind (wpAny_setField ho hd (by simp) ?_)
 have e1:=Heap.get?_update_self (Obj.mapFields (·.setIfInBounds 0 (rawInt next))) ho (Obj.isFreed_of_fields (Obj.data_mapFields hd _))
 have d1:=Obj.data_mapFields hd (·.setIfInBounds 0 (rawInt next))
 refine wpAny_bind (wpAny_setField e1 d1 (by simp) ?_)
 refine wpAny_pure ⟨x,rfl,wpAny_pure (hQ _ ?_ ((Heap.SameBut.update ..).trans (Heap.SameBut.update ..)))⟩
 refine ⟨_,Heap.get?_update_self _ e1 (Obj.isFreed_of_fields (Obj.data_mapFields d1 _)),?_,?_⟩
 ·rw [Obj.cls_mapFields,Obj.cls_mapFields]; exact hc
 ·rw [Obj.data_mapFields d1]; simp [rawInt]
theorem Cu {Q:Option Value->Shared->Prop} (hh:A.handled=none) (hit:iY s.heap it a (.int slot 0) i n ep) (hS:eY s.heap a es ep t) (hf:t.fits es.size=true) (hn:es.size=n)
  (hx:∀ (A':Around) (Q':Option (Value×Nat)->Shared->Prop) (E':Value->Shared->Prop),Q' none s->wpAny (model prog w) A' (setNext a slot i ep) Q' E' s)
  (hQ:∀ h',Heap.ExtBut it s.heap h'->Q none { s with heap:=h' }):wpAny (model prog w) A (pyNext (.ref it)) Q E s:=by
 obtain ⟨o,ho,hc,hd⟩:=id hit
 obtain ⟨os,HI,hex,HJ⟩:=id hS
 unfold pyNext
 refine wpAny_bind (wpAny_attempt (wpAny_callSpecial?_slot (name:=Str.ofString "__next__") hit.typeIs bF (wpAny_call_entry bF hit.typeIs fD ?_ (gu _))))
 unfold Builtin.«set_iterator.__next__»
 refine wpAny_bind (wpAny_pure ?_)
 dsimp only
 refine wpAny_bind (wpAny_fieldsOf ho hd ?_)
 dsimp only
 refine wpAny_bind (wpAny_setEntries_of HI HJ hf ?_)
 rw [if_neg (by rw [hn]; simp)]
 refine wpAny_bind ?_
 simp only [Int.toNat_natCast]
 refine hx _ _ _ ?_
 dsimp only
 refine wpAny_bind (wpAny_setField ho hd (by simp) ?_)
 refine wpAny_bind ?_
 simp only [newExc,newTuple]
 refine wpAny_bind (wpAny_newObj_type ?_ (by size_fits))
 refine wpAny_bind (m:=firstArgMember _ _) (wpAny_of_eq (a:=Value.none) (by first | rfl | (simp only [firstArgMember]; rfl)) ?_)
 refine wpAny_newObj_type ?_ (by size_fits)
 simp only [raiseNew]
 refine wpAny_bind (wpAny_handled ?_)
 first | rw [show A.in1.handled=none from hh] | rw [hh]
 refine wpAny_bind (wpAny_pure (wpAny_throw ?_))
 refine wpAny_bind (wpAny_isInstance (T:="StopIteration") (b:=true) ⟨_,Heap.get?_push_size _ rfl,rfl⟩ isSubtype_stop ?_)
 exact wpAny_pure (hQ _ (((Heap.SameBut.update ..).extBut.push _).push _))
theorem Cv {x:Value} {pl:Nat} {tp:Addr} {ps:Array Value} {hsh:Int} {Q:Option Value->Shared->Prop} (hit:iY s.heap it a (.ref tp) i n ep) (ht:s.heap.IsTuple tp ps) (hS:eY s.heap a es ep t) (hf:t.fits es.size=true) (hn:es.size=n)
  (hp:ps[i]?=some (.int pl 0)) (hx:es[pl]?=some (hsh,x))
  (hQ:∀ h',iY h' it a (.ref tp) (i + 1) n ep->Heap.SameBut it s.heap h'->Q (some x) { s with heap:=h' }):wpAny (model prog w) A (pyNext (.ref it)) Q E s:=by
 obtain ⟨o,ho,hc,hd⟩:=id hit
 obtain ⟨os,HI,hex,HJ⟩:=id hS
 obtain ⟨ot,O0,_,nt,O1⟩:=ht
 unfold pyNext
 refine wpAny_bind (wpAny_attempt (wpAny_callSpecial?_slot (name:=Str.ofString "__next__") hit.typeIs bF (wpAny_call_entry bF hit.typeIs fD ?_ (gu _))))
 unfold Builtin.«set_iterator.__next__»
 refine wpAny_bind (wpAny_pure ?_)
 dsimp only
 refine wpAny_bind (wpAny_fieldsOf ho hd ?_)
 dsimp only
 refine wpAny_bind (wpAny_setEntries_of HI HJ hf ?_)
 rw [if_neg (by rw [hn]; simp)]
 refine wpAny_bind (wpAny_seqItems O0 O1 ?_)
 dsimp only
 simp only [Int.toNat_natCast,hp]
 refine wpAny_bind ?_
 unfold setNextDrawn
 refine wpAny_bind (wpAny_setState_of HI HJ hf ?_)
 dsimp only
 rw [if_neg (by simp)]
 simp only [hx]
 refine wpAny_pure ?_
 refine wpAny_bind (wpAny_setField ho hd (by simp) ?_)
 refine wpAny_pure ⟨x,rfl,wpAny_pure (hQ _ ?_ (Heap.SameBut.update ..))⟩
 refine ⟨_,Heap.get?_update_self _ ho (Obj.isFreed_of_fields (Obj.data_mapFields hd _)),?_,?_⟩
 ·rw [Obj.cls_mapFields]; exact hc
 ·rw [Obj.data_mapFields hd]; simp [rawInt]
theorem FA {tp:Addr} {ps:Array Value} {Q:Option Value->Shared->Prop} (hh:A.handled=none) (hit:iY s.heap it a (.ref tp) i n ep) (ht:s.heap.IsTuple tp ps) (hS:eY s.heap a es ep t) (hf:t.fits es.size=true) (hn:es.size=n)
  (hp:ps[i]?=none) (hQ:∀ h',Heap.ExtBut it s.heap h'->Q none { s with heap:=h' }):wpAny (model prog w) A (pyNext (.ref it)) Q E s:=by
 obtain ⟨o,ho,hc,hd⟩:=id hit
 obtain ⟨os,HI,hex,HJ⟩:=id hS
 obtain ⟨ot,O0,_,nt,O1⟩:=ht
 unfold pyNext
 refine wpAny_bind (wpAny_attempt (wpAny_callSpecial?_slot (name:=Str.ofString "__next__") hit.typeIs bF (wpAny_call_entry bF hit.typeIs fD ?_ (gu _))))
 unfold Builtin.«set_iterator.__next__»
 refine wpAny_bind (wpAny_pure ?_)
 dsimp only
 refine wpAny_bind (wpAny_fieldsOf ho hd ?_)
 dsimp only
 refine wpAny_bind (wpAny_setEntries_of HI HJ hf ?_)
 rw [if_neg (by rw [hn]; simp)]
 refine wpAny_bind (wpAny_seqItems O0 O1 ?_)
 dsimp only
 simp only [Int.toNat_natCast,hp]
 refine wpAny_bind (wpAny_setField ho hd (by simp) ?_)
 have e1:=Heap.get?_update_self (Obj.mapFields (·.setIfInBounds 0 (rawInt 0))) ho (Obj.isFreed_of_fields (Obj.data_mapFields hd _))
 have d1:=Obj.data_mapFields hd (·.setIfInBounds 0 (rawInt 0))
 refine wpAny_bind (wpAny_setField e1 d1 (by simp) ?_)
 refine wpAny_bind ?_
 simp only [newExc,newTuple]
 refine wpAny_bind (wpAny_newObj_type ?_ (by size_fits))
 refine wpAny_bind (m:=firstArgMember _ _) (wpAny_of_eq (a:=Value.none) (by first | rfl | (simp only [firstArgMember]; rfl)) ?_)
 refine wpAny_newObj_type ?_ (by size_fits)
 simp only [raiseNew]
 refine wpAny_bind (wpAny_handled ?_)
 first | rw [show A.in1.handled=none from hh] | rw [hh]
 refine wpAny_bind (wpAny_pure (wpAny_throw ?_))
 refine wpAny_bind (wpAny_isInstance (T:="StopIteration") (b:=true) ⟨_,Heap.get?_push_size _ rfl,rfl⟩ isSubtype_stop ?_)
 exact wpAny_pure (hQ _ ((((Heap.SameBut.update ..).trans (Heap.SameBut.update ..)).extBut.push _).push _))
theorem o6 (hS:eY s.heap a es ep t) (hf:t.fits es.size=true) (hw:w.params.followText "set-order"=false) (hl:t.led=true) (hp:(!t.plain && decide (es.size > 1))=false) {Q:Option (Value×Nat)->Shared->Prop}
  (h:Q (match es[SetTable.below t.place slot]?,t.place[SetTable.below t.place slot]? with | some (_,x),some j=>some (x,j + 1) | _,_=>none) s):wpAny (model prog w) A (setNext a slot i ep) Q E s:=by
 obtain ⟨o,ho,_,hd⟩:=hS
 unfold setNext
 refine wpAny_bind (wpAny_setState_of ho hd hf ?_)
 dsimp only
 refine wpAny_bind ?_
 unfold setsByText
 refine wpAny_bind (wpAny_askSetting (wpAny_pure ?_))
 show wpAny _ _ (if w.params.followText "set-order"=true then _ else _) _ _ _
 rw [hw,if_neg Bool.false_ne_true]
 show wpAny _ _ (if (!t.plain && decide (es.size > 1))=true then _ else _) _ _ _
 rw [hp,if_neg Bool.false_ne_true]
 refine wpAny_bind ?_
 show wpAny _ _ (if (!t.led && !es.isEmpty)=true then _ else _) _ _ _
 rw [hl,if_neg (by simp)]
 exact wpAny_pure (wpAny_pure h)
theorem rk (hS:eY s.heap a es ep t) (hf:t.fits es.size=true) (hw:w.params.followText "set-order"=true) {Q:Option (Value×Nat)->Shared->Prop}
  (h:Q (((pickOrder (w.params.setOrder a ep) es)[i]?).map fun e=>(e.2,slot)) s):wpAny (model prog w) A (setNext a slot i ep) Q E s:=by
 obtain ⟨o,ho,_,hd⟩:=hS
 unfold setNext
 refine wpAny_bind (wpAny_setState_of ho hd hf ?_)
 dsimp only
 refine wpAny_bind ?_
 unfold setsByText
 refine wpAny_bind (wpAny_askSetting (wpAny_pure ?_))
 show wpAny _ _ (if w.params.followText "set-order"=true then _ else _) _ _ _
 rw [hw,if_pos rfl]
 rw [if_neg (by simp)]
 refine wpAny_bind ?_
 unfold setWalk
 refine wpAny_bind (wpAny_setState_of ho hd hf ?_)
 dsimp only
 refine wpAny_bind ?_
 unfold setsByText
 refine wpAny_bind (wpAny_askSetting (wpAny_pure ?_))
 show wpAny _ _ (if w.params.followText "set-order"=true then _ else _) _ _ _
 rw [hw,if_pos rfl]
 exact wpAny_bind (wpAny_askSetting (wpAny_pure (wpAny_pure h)))
end
end LS
namespace LS
open PySem PySem.Spec PyProof.Rows
theorem kF {α:Type}:∀ {l:List α} {i:Nat} (h:i < l.length),(l[i] :: l.eraseIdx i).Perm l
 | x :: l,0,_=>by simp
 | x :: l,i + 1,h=>by
   have h':i < l.length:=by simpa using h
   have:=kF h'
   simp only [List.getElem_cons_succ,List.eraseIdx_cons_succ]
   exact (List.Perm.swap _ _ _).trans (List.Perm.cons _ this)
theorem y0 {α:Type} (next:Nat->Nat):∀ (fuel k:Nat) (left:List α) (out:Array α),left.length=fuel->(pickOrder.go next fuel k left out).toList.Perm (out.toList ++ left)
 | 0,k,left,out,h=>by
   have:left=[]:=List.length_eq_zero_iff.mp h
   subst this
   rw [pickOrder.go,List.append_nil]
 | fuel + 1,k,left,out,h=>by
   rw [pickOrder.go]
   have hl:next k % left.length < left.length:=Nat.mod_lt _ (by omega)
   rw [List.getElem?_eq_getElem hl]
   dsimp only
   refine (y0 next fuel (k + 1) _ _ (by rw [List.length_eraseIdx_of_lt hl]; omega)).trans ?_
   rw [Array.toList_push,List.append_assoc]
   exact List.Perm.append_left _ (kF hl)
theorem Aq {α:Type} (next:Nat->Nat) (xs:Array α):(pickOrder next xs).toList.Perm xs.toList:=by
 have:=y0 next xs.size 0 xs.toList #[] (by simp)
 simpa [pickOrder] using this
section
variable {prog:Program} {w:World} {A:Around} {E:Value->Shared->Prop} {s:Shared} {it a:Addr} {first:Value} {i n ep:Nat} {es:Array (Int×Value)} {t:SetTable}
theorem wY {M:Model} {src:Source} {Q:Nat->Shared->Prop} (hn:n≠0) (h:∀ i d',i < n->Q i { s with drawn:=d' }):wpAny M A (choose src n) Q E s:=
 fun _ _ _=>⟨hn,h _ _ (Nat.mod_lt _ (Nat.pos_of_ne_zero hn))⟩
theorem o7 {α:Type} {M:Model}:∀ (n:Nat) (xs:List α) (s:Shared) (Q:List α->Shared->Prop),xs.length=n->(∀ ys d',ys.Perm xs->Q ys { s with drawn:=d' })->wpAny M A (drawOrder n xs) Q E s
 | 0,xs,s,Q,hl,h=>by
   have e:xs=[]:=List.length_eq_zero_iff.mp hl
   subst e
   rw [drawOrder]
   exact wpAny_pure (h [] s.drawn (.refl _))
 | n + 1,[],s,Q,hl,h=>by cases hl
 | n + 1,x :: xs,s,Q,hl,h=>by
   rw [drawOrder]
   rotate_left
   ·intro z; cases z
   refine wpAny_bind (wY (by simp) fun i d' hi=>?_)
   rw [List.getElem?_eq_getElem hi]
   dsimp only
   refine wpAny_bind (o7 n _ _ _ (by rw [List.length_eraseIdx_of_lt hi]; simp at hl ⊢; omega) fun ys d2 hp=>wpAny_pure ?_)
   refine h _ d2 ?_
   exact (List.Perm.cons _ hp).trans (kF hi)
theorem Ar {I:Addr} (hf:t.fits es.size=true) (hw:w.params.followText "set-order"=true) (iU:a≠I) (hh:A.handled=none):
  Walks prog w A I [I,a] [I] (pickOrder (w.params.setOrder a ep) es).size (fun i v=>((pickOrder (w.params.setOrder a ep) es).toList.map (·.2))[i]?=some v) (fun i h=>iY h I a (.int (0:Nat) 0) i es.size ep /\ eY h a es ep t) where
 sub:=fun b hb=>by simp at hb; simp [hb]
 frame:=fun _ _ _ st hk=>⟨st.1.at fun o e=>hk I (by simp) o e,st.2.at fun o e=>hk a (by simp) o e⟩
 item:=fun i s Q E hi st hQ=>by
  refine yZ (x:=((pickOrder (w.params.setOrder a ep) es)[i]).2) (next:=0) st.1 st.2 hf rfl (fun A' Q' E' q=>rk st.2 hf hw (by rw [Array.getElem?_eq_getElem hi]; exact q)) fun h' sj lE=>?_
  exact hQ _ h' s.toks (by simp [hi]) ⟨sj,st.2.at fun o e=>lE.extBut a o iU e⟩ fun b o hb e=>lE.extBut b o (fun h=>hb (by simp [h])) e
 done:=fun s Q E st hQ=>Cu hh st.1 st.2 hf rfl (fun A' Q' E' q=>rk st.2 hf hw (by rw [Array.getElem?_eq_none (by simp)]; exact q)) fun h' Mx=>hQ h' s.toks fun b o hb e=>Mx b o (fun h=>hb (by simp [h])) e
 self:=fun _ _ _ _ st hQ=>sr st.1 hQ
theorem wZ {I:Addr} (hf:t.fits es.size=true) (hw:w.params.followText "set-order"=false) (hl:t.led=true) (hp:(!t.plain && decide (es.size > 1))=false) (hr:ri t.place.toList) (iU:a≠I) (hh:A.handled=none):
  Walks prog w A I [I,a] [I] es.size (fun i v=>(es.toList.map (·.2))[i]?=some v)
   (fun i h=>∃ slot:Nat,iY h I a (.int slot 0) i es.size ep /\ eY h a es ep t /\ (∀ k,k < i->t.place.getD k 0 < slot) /\ ∀ k,i<=k->k < t.place.size->slot<=t.place.getD k 0) where
 sub:=fun b hb=>by simp at hb; simp [hb]
 frame:=fun _ _ _ ⟨slot,EH,gz,He⟩ hk=>⟨slot,EH.at fun o e=>hk I (by simp) o e,gz.at fun o e=>hk a (by simp) o e,He⟩
 item:=fun i s Q E hi ⟨slot,EH,gz,He,O2⟩ hQ=>by
  have hz:t.place.size=es.size:=by simp only [SetTable.fits,Bool.and_eq_true,beq_iff_eq] at hf; exact hf.1
  have hb:SetTable.below t.place slot=i:=oZ hr (by omega) He O2
  have js:t.place[i]?=some (t.place.getD i 0):=by rw [Array.getElem?_eq_getElem (by omega)]; simp [Array.getD,hz,hi]
  refine yZ (x:=es[i].2) (next:=t.place.getD i 0 + 1) EH gz hf rfl (fun A' Q' E' q=>o6 gz hf hw hl hp (by rw [hb,Array.getElem?_eq_getElem hi,js]; exact q)) fun h' sj lE=>?_
  refine hQ _ h' s.toks (by simp [hi]) ⟨_,sj,gz.at fun o e=>lE.extBut a o iU e,fun k hk=>?_,fun k h1 h2=>?_⟩ fun b o hb e=>lE.extBut b o (fun h=>hb (by simp [h])) e
  ·by_cases We:k=i
   ·rw [We]; omega
   ·have:=jX hr (show k < i by omega) (by omega) 0 0
    omega
  ·have:=jX hr (show i < k by omega) h2 0 0
   omega
 done:=fun s Q E ⟨slot,EH,gz,He,O2⟩ hQ=>by
  have hz:t.place.size=es.size:=by simp only [SetTable.fits,Bool.and_eq_true,beq_iff_eq] at hf; exact hf.1
  have hb:SetTable.below t.place slot=es.size:=oZ hr (by omega) He O2
  exact Cu hh EH gz hf rfl (fun A' Q' E' q=>o6 gz hf hw hl hp (by rw [hb,Array.getElem?_eq_none (Nat.le_refl _)]; exact q)) fun h' Mx=>hQ h' s.toks fun b o hb e=>Mx b o (fun h=>hb (by simp [h])) e
 self:=fun _ _ _ _ ⟨slot,EH,_⟩ hQ=>sr EH hQ
theorem w4 {I tp:Addr} {ys:List Nat} (hf:t.fits es.size=true) (hy:ys.Perm (List.range es.size)) (iU:a≠I) (Wf:tp≠I) (hh:A.handled=none):
  Walks prog w A I [I,a,tp] [I] es.size (fun i v=>(ys.map fun p=>(es.getD p (0,Value.none)).2)[i]?=some v) (fun i h=>iY h I a (.ref tp) i es.size ep /\ h.IsTuple tp (ys.map fun p:Nat=>rawInt p).toArray /\ eY h a es ep t) where
 sub:=fun b hb=>by simp at hb; simp [hb]
 frame:=fun _ _ _ st hk=>⟨st.1.at fun o e=>hk I (by simp) o e,st.2.1.at fun o e=>hk tp (by simp) o e,st.2.2.at fun o e=>hk a (by simp) o e⟩
 item:=fun i s Q E hi st hQ=>by
  have HB:ys.length=es.size:=by rw [hy.length_eq]; simp
  have hp:ys[i] < es.size:=List.mem_range.mp (hy.mem_iff.mp (List.getElem_mem (by omega)))
  refine Cv (x:=es[ys[i]].2) (pl:=ys[i]) (hsh:=es[ys[i]].1) st.1 st.2.1 st.2.2 hf rfl (by simp [HB,hi,rawInt]) (by rw [Array.getElem?_eq_getElem hp]) fun h' sj lE=>?_
  refine hQ _ h' s.toks ?_ ⟨sj,st.2.1.at fun o e=>lE.extBut tp o Wf e,st.2.2.at fun o e=>lE.extBut a o iU e⟩ fun b o hb e=>lE.extBut b o (fun h=>hb (by simp [h])) e
  rw [List.getElem?_map,List.getElem?_eq_getElem (by omega)]
  simp [Array.getD,hp]
 done:=fun s Q E st hQ=>by
  have HB:ys.length=es.size:=by rw [hy.length_eq]; simp
  exact FA hh st.1 st.2.1 st.2.2 hf rfl (by simp [HB]) fun h' Mx=>hQ h' s.toks fun b o hb e=>Mx b o (fun h=>hb (by simp [h])) e
 self:=fun _ _ _ _ st hQ=>sr st.1 hQ
theorem Cw {Q:Value->Shared->Prop} (hS:eY s.heap a es ep t) (hf:t.fits es.size=true) (hr:ri t.place.toList) (hl:t.led=jA w) (hz:es.size<=sizeLine)
  (h:∀ (I:Addr) (fp:List Addr) (ord:List Value) (St:Nat->Heap->Prop) (h1:Heap) (d1:Drawn),ord.Perm (es.toList.map (·.2))->(∀ A':Around,A'.handled=none->Walks prog w A' I fp [I] ord.length (fun i v=>ord[i]?=some v) St)->St 0 h1->
   (∀ b o,s.heap.get? b=some o->h1.get? b=some o)->s.heap.objs.size<=I->(∀ b∈fp,b=a \/ s.heap.objs.size<=b)->Q (.ref I) { s with heap:=h1,drawn:=d1 }):wpAny (model prog w) A (pyIter (.ref a)) Q E s:=by
 obtain ⟨o,ho,hex,hd⟩:=id hS
 have hT:s.TypeIs (.ref a) "set":=⟨o,ho,hex.1⟩
 have g5:=Heap.lt_size ho
 refine wpAny_pyIter_slot hT PySem.F.slot_set_iter (wpAny_call_entry PySem.F.slot_set_iter hT o3 ?_ (PySem.F.args_set_iter_1 _))
 unfold Builtin.«frozenset.__iter__»
 refine wpAny_bind (wpAny_pure ?_)
 refine wpAny_bind ?_
 unfold Builtin.Frozenset.sizeOf
 refine wpAny_bind (wpAny_setEntries_of ho hd hf (wpAny_pure ?_))
 refine wpAny_bind ?_
 unfold setDrawn
 refine wpAny_bind (wpAny_setState_of ho hd hf ?_)
 dsimp only
 refine wpAny_bind ?_
 unfold setsByText
 refine wpAny_bind (wpAny_askSetting (wpAny_pure (wpAny_pure ?_)))
 show wpAny _ _ (if (!w.params.followText "set-order" && (!t.plain && decide (es.size > 1)))=true then _ else _) _ _ _
 have slots:∀ {ord:List Value} (St:Addr->Nat->Heap->Prop),ord.Perm (es.toList.map (·.2))->(∀ (A':Around) (I:Addr),a≠I->A'.handled=none->Walks prog w A' I [I,a] [I] ord.length (fun i v=>ord[i]?=some v) (St I))->
   (∀ h' I,iY h' I a (.int (0:Nat) 0) 0 es.size ep->eY h' a es ep t->St I 0 h')->Q (.ref s.heap.objs.size) { s with heap:=s.heap.push { cls:=.type "set_iterator",data:=.fields #[.int (0:Nat) 0,.int (0:Nat) 0,.ref a,.int (es.size:Nat) 0,.int (ep:Nat) 0] } }:=by
  intro ord St hp hW Hb
  have iU:a≠s.heap.objs.size:=Nat.ne_of_lt g5
  exact h s.heap.objs.size [s.heap.objs.size,a] ord (St s.heap.objs.size) _ s.drawn hp (fun A' hh=>hW A' _ iU hh) (Hb _ _ ⟨_,Heap.get?_push_size _ rfl,rfl,rfl⟩ (hS.at fun o e=>Heap.get?_push_of_some _ e)) (fun b o e=>Heap.get?_push_of_some _ e) (Nat.le_refl _)
   fun b hb=>by
    rcases List.mem_cons.mp hb with z | z
    ·exact .inr (by rw [z]; exact Nat.le_refl _)
    ·exact .inl (by simpa using z)
 by_cases NP:(!w.params.followText "set-order" && (!t.plain && decide (es.size > 1)))=true
 ·rw [if_pos NP]
  refine wpAny_bind (o7 _ _ _ _ (by simp) fun ys d' hy=>?_)
  refine wpAny_bind (wpAny_newTuple ?_ (by rw [List.length_map,hy.length_eq]; simpa using hz))
  have Wg:(s.heap.push { cls:=.type "tuple",data:=.seq (ys.map fun p:Nat=>rawInt p).toArray }).IsTuple s.heap.objs.size (ys.map fun p:Nat=>rawInt p).toArray:=⟨_,Heap.get?_push_size _ rfl,rfl,_,rfl⟩
  have K2:=hS.at (h':=s.heap.push { cls:=.type "tuple",data:=.seq (ys.map fun p:Nat=>rawInt p).toArray }) fun o e=>Heap.get?_push_of_some _ e
  obtain ⟨o1,ml,_,w5⟩:=id K2
  refine wpAny_bind (wpAny_setEpoch_of ml w5 hf ?_)
  have Ct:(s.heap.push { cls:=.type "tuple",data:=.seq (ys.map fun p:Nat=>rawInt p).toArray }).objs.size=s.heap.objs.size + 1:=Heap.size_push _ _
  refine wpAny_bind (wpAny_newObj_type (wpAny_pure ⟨_,rfl,"set_iterator",_,⟨_,Heap.get?_push_size _ rfl,rfl⟩,bF.lookup,?_⟩))
  have Wh:(ys.map fun p=>(es.getD p (0,Value.none)).2).Perm (es.toList.map (·.2)):=by
   refine (hy.map _).trans ?_
   have e:(List.range es.size).map (fun p=>(es.getD p (0,Value.none)).2)=es.toList.map (·.2):=by
    refine List.ext_getElem (by simp) fun i h1 h2=>?_
    simp at h1
    simp [Array.getD,h1]
   rw [e]
  have Jp:(ys.map fun p=>(es.getD p (0,Value.none)).2).length=es.size:=by rw [List.length_map,hy.length_eq]; simp
  refine h (s.heap.push { cls:=.type "tuple",data:=.seq (ys.map fun p:Nat=>rawInt p).toArray }).objs.size [_,a,s.heap.objs.size] _ (fun i h=>iY h (s.heap.push { cls:=.type "tuple",data:=.seq (ys.map fun p:Nat=>rawInt p).toArray }).objs.size a (.ref s.heap.objs.size) i es.size ep /\ h.IsTuple s.heap.objs.size (ys.map fun p:Nat=>rawInt p).toArray /\ eY h a es ep t) _ d' Wh (fun A' hh=>by rw [Jp]; exact w4 (t:=t) (ep:=ep) hf hy (by rw [Ct]; exact Nat.ne_of_lt (Nat.lt_succ_of_lt g5)) (by rw [Ct]; exact Nat.ne_of_lt (Nat.lt_succ_self _)) hh)
   ⟨⟨_,Heap.get?_push_size _ rfl,rfl,by simp [rawInt]⟩,Wg.push _,K2.at fun o e=>Heap.get?_push_of_some _ e⟩ (fun b o e=>Heap.get?_push_of_some _ (Heap.get?_push_of_some _ e)) (by rw [Ct]; exact Nat.le_succ _) fun b hb=>?_
  simp only [List.mem_cons,List.not_mem_nil,or_false] at hb
  rcases hb with z | z | z
  ·exact .inr (by rw [z,Ct]; exact Nat.le_succ _)
  ·exact .inl z
  ·exact .inr (by rw [z]; exact Nat.le_refl _)
 ·rw [if_neg NP]
  refine wpAny_bind (wpAny_pure ?_)
  refine wpAny_bind (wpAny_setEpoch_of ho hd hf ?_)
  refine wpAny_bind (wpAny_newObj_type (wpAny_pure ⟨_,rfl,"set_iterator",_,⟨_,Heap.get?_push_size _ rfl,rfl⟩,bF.lookup,?_⟩))
  cases hw:w.params.followText "set-order" with
  | true=>
    have O3:((pickOrder (w.params.setOrder a ep) es).toList.map (·.2)).length=(pickOrder (w.params.setOrder a ep) es).size:=by simp
    exact slots (ord:=(pickOrder (w.params.setOrder a ep) es).toList.map (·.2)) (fun I i h=>iY h I a (.int (0:Nat) 0) i es.size ep /\ eY h a es ep t) ((Aq _ _).map _) (fun A' I iU hh=>by rw [O3]; exact Ar hf hw iU hh) fun h' I x y=>⟨x,y⟩
  | false=>
    rw [hw] at NP
    have js:(!t.plain && decide (es.size > 1))=false:=by simpa using NP
    have hle:t.led=true:=by rw [hl]; simp [jA,hw]
    have O3:(es.toList.map (·.2)).length=es.size:=by simp
    refine slots (ord:=es.toList.map (·.2)) (fun I i h=>∃ slot:Nat,iY h I a (.int slot 0) i es.size ep /\ eY h a es ep t /\ (∀ k,k < i->t.place.getD k 0 < slot) /\ ∀ k,i<=k->k < t.place.size->slot<=t.place.getD k 0) (.refl _)
     (fun A' I iU hh=>by rw [O3]; exact wZ hf hw hle js hr iU hh) fun h' I x y=>⟨0,x,y,fun k hk=>by omega,fun k _ _=>Nat.zero_le _⟩
end
end LS
namespace LS
open PySem PySem.Spec PySem.Calls PyProof.Rows
section
variable {prog:Program} {w:World} {A:Around} {E:Value->Shared->Prop} {s:Shared} {a:Addr} {ns:List Int}
theorem Cy {Q:Bool->Shared->Prop} (hT:s.TypeIs (.ref a) "set") (h:Q false s):wpAny (model prog w) A (Builtin.List.listLengthHint (.ref a)) Q E s:=by
 unfold Builtin.List.listLengthHint
 refine wpAny_bind (wpAny_specialOf hT PySem.F.slot_set_len.lookup ?_)
 generalize UU:("set.__len__":String)=id0
 wp_delta
 rw [show splitId id0=some ("set","__len__") from by subst UU; decide +kernel]
 subst UU
 refine wpAny_bind (wpAny_isInstance (T:="set") (b:=true) hT (by rw [isSubtype_type]; kernel_rfl) ?_)
 refine wpAny_ite_split (fun z=>absurd z (by decide)) fun _=>?_
 refine wpAny_ite_split (fun _=>?_) fun z=>absurd (by decide +kernel) z
 exact wpAny_bind (wpAny_typeOf hT (wpAny_pure h))
theorem uI {R:List Value->Shared->Prop} (hh:A.handled=none) (hS:iE prog w s.heap a (jA w) ns)
  (h:∀ (h':Heap) (tk:Nat) (d':Drawn) (vs:List Value) (ms:List Int),(∀ b o,s.heap.get? b=some o->h'.get? b=some o)->s.heap.objs.size < h'.objs.size->IntsAre vs ms->ms.Perm ns->R vs { s with heap:=h',toks:=tk,drawn:=d' }):
  wpAny (model prog w) A (collect (.ref a)) R E s:=by
 obtain ⟨o,es,ep,t,ho,hex,hd,h1,h2,h3,h4,h5,h6,h7⟩:=hS
 have hz:=fits_of_scanBound h4
 have g5:=Heap.lt_size ho
 have Wi:eY s.heap a es ep t:=⟨o,ho,hex,hd⟩
 unfold collect
 refine wpAny_bind (wpAny_runValue (codeAny_builtin entry_proto_collect' ?_))
 rw [Around.under_plainId PySem.F.plain_proto_collect _]
 show wpAny _ A.in1 (newList [] >>= fun l=>again (.builtin "list.__iadd__" ⟨[l,.ref a],[]⟩)) _ _ s
 refine wpAny_bind (wpAny_newObj_type ?_)
 refine wpAny_pure ⟨plainId_quiet PySem.F.plain_list_iadd _,codeAny_builtin entry_list_iadd' ?_⟩
 rw [Around.under_plainId PySem.F.plain_list_iadd _]
 generalize hP:s.heap.push { cls:=.type "list",data:=.seq ([]:List Value).toArray }=P1
 have HK:∀ b o,s.heap.get? b=some o->P1.get? b=some o:=fun b o e=>by rw [<- hP]; exact Heap.get?_push_of_some _ e
 have hL:P1.get? s.heap.objs.size=some { cls:=.type "list",data:=.seq #[] }:=by rw [<- hP]; exact Heap.get?_push_size _ rfl
 have Fv:P1.objs.size=s.heap.objs.size + 1:=by rw [<- hP]; exact Heap.size_push _ _
 show wpAny _ A.in1 (Builtin.List.listExtendWith (.ref s.heap.objs.size) (.ref a) (.ref s.heap.objs.size)) _ _ { s with heap:=P1 }
 have key:wpAny (model prog w) A.in1 (Builtin.List.listExtendWith (.ref s.heap.objs.size) (.ref a) (.ref s.heap.objs.size))
   (fun fin s'=>match fin with
    | .done f=>False
    | .again c'=>c'.quiet=true /\ codeAny (model prog w) A c' (fun q s'=>∃ (h':Heap) (tk:Nat) (d':Drawn) (acc:Array Value) (c':Nat) (ms:List Int),q=.ok (.ret (.ref s.heap.objs.size)) /\ s'={ s with heap:=h',toks:=tk,drawn:=d' } /\
      (∀ b o,s.heap.get? b=some o->h'.get? b=some o) /\ h'.get? s.heap.objs.size=some { cls:=.type "list",dict:=none,data:=.seq acc c',slots:=#[] } /\ IntsAre acc.toList ms /\ ms.Perm ns) s') (fun _ _=>False) { s with heap:=P1 }:=by
  unfold Builtin.List.listExtendWith
  have K2:=Wi.at (h':=P1) fun o e=>HK a o e
  obtain ⟨o1,ml,O4,w5⟩:=id K2
  refine wpAny_bind (wpAny_typeOf (T:="set") ⟨o1,ml,O4.1⟩ ?_)
  have q1:Builtin.List.listSameRef (.ref s.heap.objs.size) (.ref a)=false:=by simp [Builtin.List.listSameRef,Nat.ne_of_gt g5]
  have q2:(Value.type "set" == Value.type "list")=false:=by decide
  have q3:(Value.type "set" == Value.type "tuple")=false:=by decide
  simp only [q1,q2,q3,Bool.or_false,Bool.false_eq_true,if_false]
  refine wpAny_bind (Cw (s:={ s with heap:=P1 }) K2 h5 h7 h6 hz fun I fp ord St My d1 hp hW UW kp hI O5=>?_)
  replace kp:∀ b o,P1.get? b=some o->My.get? b=some o:=kp
  replace hI:P1.objs.size<=I:=hI
  replace O5:∀ b∈fp,b=a \/ P1.objs.size<=b:=O5
  have Jr:s.heap.objs.size∉fp:=fun z=>by
   rcases O5 _ z with e | e
   ·exact Nat.lt_irrefl _ (e ▸ g5)
   ·rw [Fv] at e; exact Nat.not_succ_le_self _ e
  have ZG:s.heap.objs.size≠I:=fun z=>by rw [<- z,Fv] at hI; exact Nat.not_succ_le_self _ hI
  obtain ⟨o2,iw,hex2,_⟩:=K2.at (h':=My) fun o e=>kp a o e
  obtain ⟨i0,HL⟩:=mI h2 hp
  have Jp:ord.length<=sizeLine:=by rw [hp.length_eq]; simpa using hz
  have run:∀ (g:Heap) (c0:Nat),St 0 g->(∀ b o,b≠s.heap.objs.size->My.get? b=some o->g.get? b=some o)->g.get? s.heap.objs.size=some { cls:=.type "list",data:=.seq #[] c0 }->
    codeAny (model prog w) A (.builtin "list.extend.loop" ⟨[.ref s.heap.objs.size,.ref I,.ref s.heap.objs.size],[]⟩) (fun q s'=>∃ (h':Heap) (tk:Nat) (d':Drawn) (acc:Array Value) (c':Nat) (ms:List Int),q=.ok (.ret (.ref s.heap.objs.size)) /\ s'={ s with heap:=h',toks:=tk,drawn:=d' } /\
     (∀ b o,s.heap.get? b=some o->h'.get? b=some o) /\ h'.get? s.heap.objs.size=some { cls:=.type "list",dict:=none,data:=.seq acc c',slots:=#[] } /\ IntsAre acc.toList ms /\ ms.Perm ns) { s with heap:=g,drawn:=d1 }:=by
   intro g c0 st k hg
   refine codeAny_extend_loopS (hW A.in1 hh).toS Jp _ Jr _ ord.length 0 _ #[] c0 rfl (Nat.zero_le _) st hg (ItemsOf.nil _) fun s' Jw c' mv KZ qq=>?_
   obtain ⟨hx,gx,dx,tx,ox⟩:=s'
   have eg:gx=s.gens:=mv.gens
   have ed:dx=d1:=mv.drawn
   have eo:ox=s.os:=mv.os
   subst eg ed eo
   have O6:Jw.toList=ord:=by
    refine List.ext_getElem? fun j=>?_
    by_cases hj:j < Jw.size
    ·have q:=qq.2 j _ (Array.getElem?_eq_getElem hj)
     rw [q]; simp [hj]
    ·rw [List.getElem?_eq_none (by simp; omega),List.getElem?_eq_none (by rw [<- qq.1]; omega)]
   refine ⟨hx,tx,dx,Jw,c',i0,rfl,rfl,fun b o e=>?_,KZ,by rw [O6]; exact HL.1,HL.2⟩
   have hb:=Heap.lt_size e
   refine mv.heap b o ?_ (k b o (Nat.ne_of_lt hb) (kp b o (HK b o e)))
   simp only [List.mem_cons,List.not_mem_nil,or_false,not_or]
   exact ⟨Nat.ne_of_lt hb,Nat.ne_of_lt (Nat.lt_of_lt_of_le hb (Nat.le_trans (by rw [Fv]; exact Nat.le_succ _) hI))⟩
  have O7:My.get? s.heap.objs.size=some { cls:=.type "list",data:=.seq #[] }:=kp _ _ hL
  refine wpAny_bind (wpAny_holding (Cy ⟨o2,iw,hex2.1⟩ ?_))
  refine wpAny_ite_split (fun _=>?_) (fun _=>wpAny_pure ⟨plainId_quiet PySem.F.plain_extend_loop _,run My 0 UW (fun b o _ e=>e) O7⟩)
  refine wpAny_bind (wpAny_rule (wpAny_bind ?_))
  show wpAny _ _ (updateSeq s.heap.objs.size (·.push .none) >>= fun _=>updateSeq s.heap.objs.size (·.pop)) _ _ _
  refine wpAny_bind (wpAny_updateSeq O7 rfl ?_)
  have UX:=Heap.get?_update_self (Obj.mapSeq (·.push Value.none)) O7 rfl
  refine wpAny_updateSeq (hz:=by seq_fits) UX rfl ?_
  have Wj:=Heap.get?_update_self (Obj.mapSeq (·.pop)) UX rfl
  refine wpAny_pure ⟨plainId_quiet PySem.F.plain_extend_loop _,run _ _ ((hW A.in1 hh).frame 0 _ _ UW fun b hb o e=>?_) (fun b o hb e=>?_) Wj⟩
  ·have UY:b≠s.heap.objs.size:=fun z=>Jr (z ▸ hb)
   exact (Heap.get?_update_other _ _ (Ne.symm UY)).trans ((Heap.get?_update_other _ _ (Ne.symm UY)).trans e)
  ·exact (Heap.get?_update_other _ _ (Ne.symm hb)).trans ((Heap.get?_update_other _ _ (Ne.symm hb)).trans e)
 refine wpAny_mono key (fun fin s' x=>?_) fun _ _ z=>z.elim
 cases fin with
 | done f=>exact x.elim
 | again c₁=>
   refine ⟨x.1,codeAny_mono x.2 fun q kc y=>?_⟩
   obtain ⟨h',tk,d',acc,c',ms,rfl,rfl,hk,KZ,i1,p1⟩:=y
   show wpAny _ A (load s.heap.objs.size >>= _) _ _ _
   exact wpAny_bind (wpAny_load KZ (wpAny_pure (h h' tk d' acc.toList ms hk (Heap.lt_size KZ) i1 p1)))
theorem nO {Q:Value->Shared->Prop} (hh:A.handled=none) (hS:iE prog w s.heap a (jA w) ns) (O8:ns.length < 64)
  (h:∀ (D:Addr) (h':Heap) (tk:Nat) (d':Drawn) (out:Array Value) (n:Nat) (ms:List Int),s.heap.objs.size<=D->(∀ b o,s.heap.get? b=some o->h'.get? b=some o)->h'.get? D=some (seqObj "list" out n)->IntsAre out.toList ms->ms.Perm ns->ms.Pairwise (·<=·)->Q (.ref D) { s with heap:=h',toks:=tk,drawn:=d' }):
  wpAny (model prog w) A (call (.builtin "sorted") [.ref a]) Q E s:=by
 refine call_function_entry kind_sorted plain_sorted entry_sorted (args_sorted1 _) ?_
 unfold Builtin.«sorted»
 refine wpAny_bind (m:=checkCount "sorted" 1 1 _) (wpAny_pure ?_)
 refine wpAny_bind (uI (A:=A.in1) hh hS fun h' tk d' vs ms hk Wk hi hp=>?_)
 have hl:vs.length=ns.length:=by rw [<- hp.length_eq,(c6.mp hi).2,List.length_map]
 have Wl:vs.length<=sizeLine:=by rw [sizeLine_eq]; omega
 refine wpAny_bind (wpAny_newList ?_ Wl)
 have Ln:(h'.push (seqObj "list" vs.toArray 0)).get? h'.objs.size=some (seqObj "list" vs.toArray 0):=Heap.get?_push_size _ rfl
 refine wpAny_bind (wpAny_holding (wpAny_call_entry slot_list_sort ⟨_,Ln,rfl⟩ entry_list_sort (list_sort_tree Ln hi (by omega) fun out Wm a1 a2 a3=>⟨_,rfl,?_⟩) (args_list_sort _)))
 obtain ⟨en,K3⟩:=sortedHeap_at (out:=out) Ln
 refine wpAny_pure ⟨_,rfl,h h'.objs.size _ tk d' out en Wm (Nat.le_of_lt Wk) (fun b o e=>?_) K3 a1 (a2.trans hp) a3⟩
 have hb:=Heap.lt_size (hk b o e)
 rw [sortedHeap_old (Nat.ne_of_lt hb) (by rw [size_push']; exact Nat.lt_succ_of_lt hb)]
 exact Heap.get?_push_of_some _ (hk b o e)
end
end LS
namespace L2
open PySem PySem.Spec PyProof.Rows LS
def ins (x:Int):List Int->List Int
 | []=>[x]
 | y :: l=>if x < y then x :: y :: l else if x=y then y :: l else y :: ins x l
def ss:List Int->List Int
 | []=>[]
 | x :: l=>ins x (ss l)
set_option tactic.hygienic true in
theorem su {x z:Int}:∀ {l:List Int},z∈ins x l↔z=x \/ z∈l
 | []=>by simp [ins]
 | y :: l=>by
   rw [ins]
   split
   ·simp
   ·split
    ·rename_i h; subst h; simp
    ·simp only [List.mem_cons,su]
     constructor
     ·rintro (h | h | h)
      ·exact .inr (.inl h)
      ·exact .inl h
      ·exact .inr (.inr h)
     ·rintro (h | h | h)
      ·exact .inr (.inl h)
      ·exact .inl h
      ·exact .inr (.inr h)
set_option tactic.hygienic true in
theorem o8 {x:Int}:∀ {l:List Int},l.Pairwise (· < ·)->(ins x l).Pairwise (· < ·)
 | [],_=>by simp [ins]
 | y :: l,h=>by
   rw [List.pairwise_cons] at h
   rw [ins]
   split
   ·rename_i Bp
    refine List.pairwise_cons.mpr ⟨fun z hz=>?_,List.pairwise_cons.mpr h⟩
    rcases List.mem_cons.mp hz with e | e
    ·rw [e]; exact Bp
    ·exact Int.lt_trans Bp (h.1 z e)
   ·split
    ·exact List.pairwise_cons.mpr h
    ·refine List.pairwise_cons.mpr ⟨fun z hz=>?_,o8 h.2⟩
     rcases su.mp hz with e | e
     ·rw [e]; omega
     ·exact h.1 z e
theorem w6 {z:Int}:∀ {l:List Int},z∈ss l↔z∈l
 | []=>by simp [ss]
 | x :: l=>by rw [ss,su,w6,List.mem_cons]
theorem gA:∀ {l:List Int},(ss l).Pairwise (· < ·)
 | []=>.nil
 | _ :: _=>o8 gA
theorem o9:∀ {l m:List Int},l.Pairwise (· < ·)->m.Pairwise (· < ·)->(∀ z,z∈l↔z∈m)->l=m
 | [],[],_,_,_=>rfl
 | [],y :: m,_,_,h=>absurd ((h y).mpr List.mem_cons_self) (by simp)
 | x :: l,[],_,_,h=>absurd ((h x).mp List.mem_cons_self) (by simp)
 | x :: l,y :: m,hl,hm,h=>by
   rw [List.pairwise_cons] at hl hm
   have e:x=y:=by
    rcases List.mem_cons.mp ((h x).mp List.mem_cons_self) with a | a
    ·exact a
    ·rcases List.mem_cons.mp ((h y).mpr List.mem_cons_self) with b | b
     ·exact b.symm
     ·have:=hl.1 y b
      have:=hm.1 x a
      omega
   subst e
   rw [o9 hl.2 hm.2 fun z=>⟨fun hz=>?_,fun hz=>?_⟩]
   ·rcases List.mem_cons.mp ((h z).mp (List.mem_cons_of_mem _ hz)) with a | a
    ·have:=hl.1 z hz; omega
    ·exact a
   ·rcases List.mem_cons.mp ((h z).mpr (List.mem_cons_of_mem _ hz)) with a | a
    ·have:=hm.1 z hz; omega
    ·exact a
theorem HM {l m:List Int} (hm:m.Pairwise (· < ·)) (h:∀ z,z∈m↔z∈l):ss l=m:=o9 gA hm fun z=>by rw [w6,h]
section
variable {X:Cx} {pins:List (Addr×Obj)} {σ:St} {H:Hp} {s:Shared}
theorem Inv.drew (I:Inv X pins σ H s) (d':Drawn):Inv X pins σ H { s with drawn:=d' }:=
 I.step (d':=d') (g':=s.gens) (t':=s.toks) (ch:=[]) (fun b hb=>by simp at hb) (fun _ _ _ _ _ e _=>e) (fun b o _ _ _ e _=>⟨o.slots,e⟩) (fun _ _ _ _ n=>n) (fun b o _ e=>⟨o,e⟩) (fun _ _ e=>e) (fun _ _ _ e=>e)
  (fun b ps e=>⟨#[],by rw [e]; simp⟩) (fun _ h=>h) I.bE I.bare
def FC (P:Program) (w:World) (a:Addr) (ns:List Int):HO:=.ext fun h=>iE P w h a (jA w) ns
def O9 (P:Program) (w:World) (K:PySem.W.Frag):List V->Hp->VK->Prop:=fun xs H Q=>∃ (p:Addr) (ms:List Int),xs=[.ref p] /\ (fY K H p (ms.map V.int) \/ jk K H p (ms.map V.int)) /\ ms.length + 1 < scanBound /\
 ∀ (l:Addr) (ns:List Int),H l=none->(∀ x,x∈ns↔x∈ms)->ns.length<=ms.length->Q (.ref l) (upd H l (FC P w l ns))
theorem As (hc:X.calm=true):dU X (.type "set") (O9 X.prog X.w X.K):=by
 intro pins s σ H xs us Q I r h
 obtain ⟨p,ms,rfl,hq,hb,q⟩:=h
 obtain ⟨u,rfl,rx⟩:=vals1 r
 cases rx
 have hh:=I.ok.hd hc
 have fin:∀ (h':Heap) (tk:Nat) (ns:List Int),iE X.prog X.w h' s.heap.objs.size (jA X.w) ns->(∀ x,x∈ns↔x∈ms)->ns.length<=ms.length->(∀ b o,s.heap.get? b=some o->h'.get? b=some o)->EP X pins σ Q (.ref s.heap.objs.size) { s with heap:=h',toks:=tk }:=fun h' tk ns S m l k=>
  ⟨.ref s.heap.objs.size,_,I.laid (o:=FC X.prog X.w s.heap.objs.size ns) k (Nat.le_refl _) ⟨S,(let ⟨o,_,_,_,e,_⟩:=S; ⟨o,e⟩),fun h1 h2 S1 kk=>S1.keeps kk⟩,rfl,q _ ns (I.bE.fresh (Nat.le_refl _)) m l⟩
 rcases hq with hq | hq
 ·obtain ⟨its,rv,pl,_⟩:=I.list hq
  have hi:IntsAre its ms:=intsAre_of rv
  have hl:its.length=ms.length:=by rw [(c6.mp hi).2,List.length_map]
  exact uG hh (src_list pl.isList) hi (by rw [List.size_toArray,hl]; exact hb) fin
 ·obtain ⟨its,rv,pl,_⟩:=I.tuple hq
  have hi:IntsAre its ms:=intsAre_of rv
  have hl:its.length=ms.length:=by rw [(c6.mp hi).2,List.length_map]
  exact uG hh (src_tuple (show s.heap.IsTuple p its.toArray from pl)) hi (by rw [List.size_toArray,hl]; exact hb) fin
def Cz (P:Program) (w:World):List V->Hp->VK->Prop:=fun xs H Q=>∃ (p:Addr) (ns:List Int),xs=[.ref p] /\ H p=some (FC P w p ns) /\ ns.length < 64 /\ ∀ (l:Addr) (out:List Int),H l=none->out.Pairwise (· < ·)->(∀ x,x∈out↔x∈ns)->Q (.ref l) (upd H l (.lst (out.map V.int)))
theorem uJ:∀ {vs:List Value} {ns:List Int},IntsAre vs ns->bf (ns.map V.int) vs
 | _,_,.nil=>.nil
 | _,_,.cons n t h=>.cons ⟨t,rfl⟩ (uJ h)
theorem FD {prog:Program} {w:World} {h:Heap} {a:Addr} {led:Bool} {ns:List Int} (h:iE prog w h a led ns):ns.Nodup:=by
 obtain ⟨_,_,_,_,_,_,_,_,_,z,_⟩:=h
 exact z
theorem sv (hc:X.calm=true):dU X (.builtin "sorted") (Cz X.prog X.w):=by
 intro pins s σ H xs us Q I r h
 obtain ⟨p,ns,rfl,hp,O8,q⟩:=h
 obtain ⟨u,rfl,rx⟩:=vals1 r
 cases rx
 have hS:iE X.prog X.w s.heap p (jA X.w) ns:=(show cF X.prog X.w H s.heap p (FC X.prog X.w p ns) from I.bE p _ hp).1
 have nd:ns.Nodup:=FD hS
 refine nO (I.ok.hd hc) hS O8 fun D h' tk d' out n ms hD k e hi CA Mz=>?_
 have hl:ms.length=ns.length:=CA.length_eq
 have J:=(I.drew d').laid (t':=tk) (o:=.lst (ms.map V.int)) (h':=h') k hD ⟨by rw [List.length_map,sizeLine_eq]; omega,out.toList,n,uJ hi,by simpa using e⟩
 refine ⟨.ref D,_,J,rfl,q D ms (I.bE.fresh hD) ?_ fun x=>CA.mem_iff⟩
 have Wn:ms.Nodup:=CA.nodup_iff.mpr nd
 refine (List.Pairwise.and Mz Wn).imp fun {a b} HG=>?_
 have:=HG.1
 have:=HG.2
 omega
end
theorem Jx:bootBuiltins "set"=some (.type "set"):=by decide +kernel
theorem Au:bootBuiltins "sorted"=some (.builtin "sorted"):=by decide +kernel
def kl:List D->Option (List Int)
 | []=>some []
 | .int i :: l=>(kl l).map (i :: ·)
 | _ :: _=>none
theorem mJ:∀ (ns:List Int),kl (ns.map .int)=some ns
 | []=>rfl
 | n :: ns=>by rw [List.map_cons,kl,mJ ns]; rfl
theorem iZ:∀ {l:List D} {ns:List Int},kl l=some ns->l=ns.map .int
 | [],_,h=>by cases h; rfl
 | d :: l,ns,h=>by
   cases d with
   | int i=>
     rw [kl] at h
     cases e:kl l with
     | none=>rw [e] at h; cases h
     | some m=>rw [e] at h; cases h; rw [iZ e]; rfl
   | _=>cases h
def Jy:D->Option (List D)
 | .list l=>some l
 | .tuple l=>some l
 | _=>none
def Jz (g:DS->Option D):DS->Option (List D):=fun δ=>(g δ).bind fun d=>(Jy d).bind fun l=>(kl l).bind fun ns=>if ns.length < 64 then some ((ss ns).map .int) else none
theorem cy.toInts {K:PySem.W.Frag} {H:Hp}:∀ {ns:List Int} {xs:List V},cy K H xs (ns.map PyData.int)->xs=ns.map V.int
 | [],_,h=>by cases h; rfl
 | n :: ns,_,h=>by
   rw [List.map_cons] at h
   cases h with
   | cons a t=>cases a; rw [cy.toInts t]; rfl
set_option tactic.hygienic true in
theorem kG {X:Cx} {O:List Nat} {e:Expr} {ge:DS->Option D} {p1 p2 q1 q2:Pos} (h1:X.mg "sorted"=none) (h2:X.mg "set"=none) (he:PE X e (g0 X.K O ge)) (hc:X.calm=true:=by rfl) (g1:Gl X "sorted":=by rfl) (g2:Gl X "set":=by rfl)
  (s1:starEach [Expr.Call (.Name "set" p2) [e] [] q2] X.env=(false,eval (Expr.Call (.Name "set" p2) [e] [] q2) X.env) :: starEach [] X.env:=by rfl) (s2:starEach [e] X.env=(false,eval e X.env) :: starEach [] X.env:=by rfl)
  (b1:(backTo q1 (starEach [] X.env)).any (·.1)=false:=by rfl) (b2:(backTo q2 (starEach [] X.env)).any (·.1)=false:=by rfl):
  PE X (.Call (.Name "sorted" p1) [.Call (.Name "set" p2) [e] [] q2] [] q1) (tN X.K O (Jz ge)):=
 (oD (sv hc) g1 h1 Au (bU (my (As hc) g2 h2 Jx (bU he df s2) (by decide) (by decide) s2 b2) df s1) (by decide) (by decide) s1 b1).mono fun σ H Q hh=>hh.e fun U A0 δ ds R ed q=>by
  obtain ⟨d,e1,ed⟩:=bind1 ed
  obtain ⟨l,e2,ed⟩:=bind1 ed
  obtain ⟨ns,e3,ed⟩:=bind1 ed
  split at ed
  ·rename_i O8
   cases ed
   refine ⟨U,A0,δ,d,R,e1,fun v H1 s1 hv=>?_⟩
   have row:∃ p,v=.ref p /\ (fY X.K H1 p (ns.map V.int) \/ jk X.K H1 p (ns.map V.int)):=by
    unfold Jy at e2
    split at e2
    ·cases e2
     obtain ⟨p,xs,rfl,r1,r2⟩:=hv.list
     rw [iZ e3] at r2
     rw [<- r2.toInts]
     exact ⟨p,rfl,.inl r1.sq⟩
    ·cases e2
     obtain ⟨p,xs,rfl,r1,r2⟩:=hv.tuple
     rw [iZ e3] at r2
     rw [<- r2.toInts]
     exact ⟨p,rfl,.inr r1⟩
    ·cases e2
   obtain ⟨p,rfl,JA⟩:=row
   refine ⟨p,ns,rfl,JA,by unfold scanBound; omega,fun l1 ms NQ hm hle=>?_⟩
   refine ⟨l1,ms,rfl,bw,by omega,fun l2 out BS hr Js=>?_⟩
   have eo:out=ss ns:=(HM hr fun z=>by rw [Js,hm]).symm
   subst eo
   refine q l2 _ _ (s1.trans ((bI NQ _).trans (bI BS _))) (s1.free ((bI NQ _).free BS)) bw (cy.ints _)
  ·cases ed
end L2
namespace L2
open PySem PySem.Spec PyProof.Rows
section
variable {prog:Program} {w:World} {A:Around} {R:Result->Shared->Prop} {s:Shared}
theorem sy {elt target iter:Expr} {ifs:List Expr} {scope:Scope} {pos:Pos} {it acc:Value} {env:Env} (I:Nat->Shared->Prop)
  (turn:∀ n s,I n s->wpAny (model prog w) A (pyNext it) (fun r bu=>match r with
   | none=>R (.ok .next) bu
   | some v=>wpAny (model prog w) A (letOwnedTupleGo target it v) (fun _ kc=>wpAny (model prog w) A (assign target env v) (fun _ iR=>
     wpAny (model prog w) A (forIn ifs true fun c r=>if r=true then do let ok <- isTrue c env (eval c env); pure (ForInStep.yield ok) else pure (ForInStep.yield r)) (fun ok r6=>
      if ok=true then wpAny (model prog w) A (eval elt env) (fun x MA=>
       wpAny (model prog w) A (call (.builtin "list.append") [acc,x]) (fun _ MB=>∃ m,m < n /\ I m MB) (notedBy (model prog w) A env fun e s'=>R (.error e) s') MA) (notedBy (model prog w) A env fun e s'=>R (.error e) s') r6
      else ∃ m,m < n /\ I m r6) (notedBy (model prog w) A env fun e s'=>R (.error e) s') iR) (notedBy (model prog w) A env fun e s'=>R (.error e) s') kc) (notedBy (model prog w) A env fun e s'=>R (.error e) s') bu) (notedBy (model prog w) A env fun e s'=>R (.error e) s') s)
  (n:Nat) (h:I n s):codeAny (model prog w) A (.compLoop (.ListComp elt [⟨target,iter,ifs,0⟩] scope pos) 0 it acc env) R s:=by
 refine codeAny_loop rfl I (fun n s hI=>?_) n h
 show wpAny _ A ((compTurn (.ListComp elt [⟨target,iter,ifs,0⟩] scope pos) 0 it acc env).onRaise (fun x=>do noteFrame x env; theTreesLotGoes x)) _ _ s
 refine wpAny_noted ?_
 rw [compTurn_list]
 refine wpAny_bind (wpAny_standAt (wpAny_bind (wpAny_mono (turn n s hI) (fun r bu iz=>?_) fun _ _ z=>z)))
 cases r with
 | none=>exact wpAny_pure iz
 | some v=>
   refine wpAny_bind (wpAny_mono iz (fun _ kc oJ=>wpAny_bind (wpAny_mono oJ (fun _ iR IU=>wpAny_bind (wpAny_mono IU (fun ok r6 MC=>?_) fun _ _ z=>z)) fun _ _ z=>z)) fun _ _ z=>z)
   cases ok with
   | false=>exact wpAny_pure ⟨rfl,MC⟩
   | true=>exact wpAny_bind (wpAny_bind (wpAny_mono MC (fun x MA Pa=>wpAny_bind (wpAny_mono Pa (fun _ MB Pb=>wpAny_pure (wpAny_pure ⟨rfl,Pb⟩)) fun _ _ z=>z)) fun _ _ z=>z))
end
def PF (X:Cx) (ifs:List Expr) (t:TT):Prop:=
 ∀ (pins:List (Addr×Obj)) (s:Shared) (σ:St) (H:Hp) (Q:Bool->Hp->Prop),Inv X pins σ H s->t σ H Q->
   wpAny (model X.prog X.w) X.A (forIn ifs true fun c r=>if r=true then do let ok <- isTrue c X.env (eval c X.env); pure (ForInStep.yield ok) else pure (ForInStep.yield r)) (TP X pins σ Q) X.xe s
def Pc:TT:=fun _ H Q=>Q true H
theorem JB {X:Cx}:PF X [] Pc:=fun _ _ _ H _ I q=>wpAny_pure ⟨H,I,q⟩
theorem sA {X:Cx} {c:Expr} {t:TT} (h:PT X c t):PF X [c] t:=fun pins s σ H Q I q=>wpAny_tests_one (h pins s σ H Q I q)
section
variable {X:Cx}
structure jZ (X:Cx) (scope:Scope) (xs:List Str) (ix:List Nat) (N':List Str):Prop where
 kind:scope.kind=.function
 wG:∀ y∈scope.names,y.2≠.cell
 names:∀ y∈scope.names,y.2=.local->scope.names.lookup y.1=some .local
 free:∀ y∈scope.names,y.2=.free->X.env.kindOf y.1=some .cell \/ X.env.kindOf y.1=some .free
 only:∀ n,(X.env.scope.kind=.function)->((relabel scope X.env).names.lookup n=some .cell \/ (relabel scope X.env).names.lookup n=some .free)->(n,NameKind.free)∈scope.names
 nm:N'=xs ++ ix.map fun j=>X.N.getD j ""
 OF:∀ j∈ix,j < X.N.length /\ (X.N.getD j "",NameKind.free)∈scope.names /\ ((relabel scope X.env).names.lookup (X.N.getD j "")=some .cell \/ (relabel scope X.env).names.lookup (X.N.getD j "")=some .free)
section
variable {scope:Scope} {xs:List Str} {ix:List Nat} {N':List Str} {cl:List (Str×Addr)} {C:Addr} {s2 s3:Shared} {H2:Hp} {fp:List Addr} {pins:List (Addr×Obj)} {σ:St}
theorem CC (S:jZ X scope xs ix N') (I:Inv X pins σ H2 s2) (hC:s2.heap.objs.size<=C) (h1:∀ n c,cl.lookup n=some c->X.env.cells.lookup n=some c) (h2:∀ n,(n,NameKind.free)∈scope.names->∃ c,cl.lookup n=some c)
  (hf:∀ b∈fp,kr X pins H2 b) (qd:∀ b∈fp,b < s2.heap.objs.size):(aQ X scope N' cl C s2 H2 fp pins).Ok where
 mod:=I.ok.mod
 kind:=by show (relabel scope X.env).kind=_; exact S.kind
 glob:=I.ok.glob
 blt:=I.ok.blt
 above:=hC
 inj:=fun a b c e1 e2=>I.ok.inj a b c (h1 _ _ e1) (h1 _ _ e2)
 has:=fun a h=>h2 a (S.only a I.ok.kind h)
 Bv:=fun a c h=>by cases h
 hd:=I.ok.hd
 frames:=I.ok.frames
 EC:=.inl rfl
 G5:=fun b hb=>⟨Nat.ne_of_lt (Nat.lt_of_lt_of_le (qd b hb) hC),fun a c e=>(hf b hb).2.2.2.2.1 a c (h1 _ _ e)⟩
 bs:=I.bs
 we:=Nat.le_trans I.ok.we I.sz
 nH:=fun b o e hb=>by
  rcases (hf b hb).2.2.2.1 with z | z
  ·exact I.ok.nH b o e z
  ·have:=(I.ok.bs b o e).1
   exact absurd (Nat.lt_of_lt_of_le (Heap.lt_size this) z) (Nat.lt_irrefl _)
 qf:=fun b hb z=>by
  rcases List.mem_cons.mp (I.fQ b z) with e | e
  ·exact (hf b hb).2.1 e
  ·exact (hf b hb).2.2.1 e
 gW:=I.stack
 wg:=I.nQ
theorem Av (S:jZ X scope xs ix N') (I:Inv X pins σ H2 s2) (hC:s2.heap.objs.size<=C) (h1:∀ n c,cl.lookup n=some c->X.env.cells.lookup n=some c) (h2:∀ n,(n,NameKind.free)∈scope.names->∃ c,cl.lookup n=some c)
  (hf:∀ b∈fp,kr X pins H2 b) (qd:∀ b∈fp,b < s2.heap.objs.size) (L4:s3.os=s2.os) (hg:s3.gens=s2.gens) (k:∀ b o,s2.heap.get? b=some o->s3.heap.get? b=some o) {m:Str->Option Value} (hn:s3.heap.Ns C m):
  Inv (aQ X scope N' cl C s2 H2 fp pins) [] (List.replicate xs.length none ++ gf ix σ) H2 s3 where
 ok:=CC S I hC h1 h2 hf qd
 os:=L4
 bare:=by rw [hg]; exact I.bare
 base:=⟨fun b o e _ _ _=>k b o e,fun b o e _ _ _=>⟨o.slots,k b o e⟩,fun b o e n _=>n,fun b o e _=>⟨o,k b o e⟩,fun _ _ e=>e,fun _ _ _ e=>e,fun b ps e=>⟨#[],by rw [Array.append_empty]; exact e⟩⟩
 loc:=by
  refine ⟨m,hn,fun i y v e1 e2 e3=>?_⟩
  by_cases hi:i < xs.length
  ·rw [List.getElem?_append_left (by simpa using hi),List.getElem?_replicate,if_pos hi] at e2
   cases e2
  ·have Bm:(gf ix σ)[i - xs.length]?=some (some v):=by rw [List.getElem?_append_right (by simp; omega)] at e2; simpa using e2
   obtain ⟨j,ej,es⟩:=uo Bm
   have Ab:N'[i]?=some y:=e1
   rw [S.nm,List.getElem?_append_right (by omega),List.getElem?_map,ej] at Ab
   have ey:X.N.getD j ""=y:=Option.some.inj Ab
   obtain ⟨hj,jV,hk⟩:=S.OF j (List.mem_of_getElem? ej)
   obtain ⟨m0,VX,L5⟩:=I.loc
   have eN:X.N[j]?=some y:=by rw [<- ey,List.getD_eq_getElem?_getD,List.getElem?_eq_getElem hj]; rfl
   have kd:=S.free _ jV rfl
   have hv:KI X.env.scope y:=by
    rw [<- ey]
    rcases kd with z | z
    ·exact .inr (.inl z)
    ·exact .inr (.inr z)
   obtain ⟨u,r,l⟩:=L5 j y v eN es hv
   refine ⟨u,r,.inr ?_⟩
   rcases l with ⟨q,_⟩ | ⟨_,c,ec,z⟩
   ·have OG:X.env.kindOf y=some .cell \/ X.env.kindOf y=some .free:=by rw [<- ey]; exact kd
    rcases OG with w | w <;> rw [q] at w <;> cases w
   ·obtain ⟨c',e'⟩:=h2 _ jV
    rw [ey] at e'
    have:=h1 _ _ e'
    rw [ec] at this; cases this
    obtain ⟨o,ho,hd⟩:=z
    exact ⟨by rw [<- ey]; exact hk,c,e',o,k c o ho,hd⟩
 cell:=fun a c e=>by
  obtain ⟨v,o,ho,hd⟩:=I.cell a c (h1 _ _ e)
  exact ⟨v,o,k c o ho,hd⟩
 free:=I.bE.fresh hC
 eA:=fun a c e=>I.eA a c (h1 _ _ e)
 pin:=fun p hp=>by
  have KQ:p∈X.pn ++ pins:=by
   rcases List.mem_append.mp hp with z | z
   ·exact z
   ·simp at z
  obtain ⟨e,n,ne,nf,d⟩:=I.pin p KQ
  refine ⟨k _ _ e,n,Nat.ne_of_lt (Nat.lt_of_lt_of_le (Heap.lt_size e) hC),fun z=>?_,d⟩
  rcases List.mem_cons.mp (I.fQ _ z) with q | q
  ·exact ne q
  ·exact nf q
 bE:=I.bE.kept k
 len:=by
  show (List.replicate xs.length none ++ gf ix σ).length=N'.length
  rw [S.nm]
  unfold gf
  simp
end
def sC (J:It) (k:Nat) (ix:List Nat) (g:TG) (tc:TT) (te:TE) (σ:St) (H:Hp) (Q:VK):Prop:=∃ W:Nat->Nat->List V->St->Hp->Prop,(∃ m,W 0 m [] (List.replicate k none ++ gf ix σ) H) /\ ∀ i m ys τ H,W i m ys τ H->ys.length<=sizeLine /\
 ((J.stop i H /\ ∀ p,H p=none->Q (.ref p) (upd H p (.lst ys))) \/ (J.go i H /\ ys.length < sizeLine /\ ∀ v H',J.Ip i H v H'->g v τ H' fun Aw H2=>tc Aw H2 fun b H3=>
   if b=true then te Aw H3 fun y H4=>∃ m',m' < m /\ W (i + 1) m' (ys ++ [y]) Aw H4 else ∃ m',m' < m /\ W (i + 1) m' ys Aw H3))
def w8 (wi:TI) (k:Nat) (ix:List Nat) (g:TG) (tc:TT) (te:TE):TE:=fun σ H Q=>wi σ H fun J H1=>sC J k ix g tc te σ H1 Q
section
variable {scope:Scope} {xs:List Str} {ix:List Nat} {N':List Str} {elt iter tg:Expr} {ifs:List Expr} {pos:Pos} {wi:TI} {te:TE} {tc:TT} {g:TG}
structure UZ (X':Cx) (D:Addr) (fp:List Addr) (tn:Nat->Heap->Prop) (W:Nat->Nat->List V->St->Hp->Prop) (n:Nat) (s':Shared) (i:Nat) (ys:List V) (its:List Value) (k:Nat) (bM:St) (H':Hp):Prop where
 I:Inv X' [(D,nK its k)] bM H' s'
 st:tn i s'.heap
 fr:∀ b∈fp,H' b=none
 w:W i n ys bM H'
 rv:bf ys its
def MD (X':Cx) (D:Addr) (fp:List Addr) (tn:Nat->Heap->Prop) (W:Nat->Nat->List V->St->Hp->Prop) (n:Nat) (s':Shared):Prop:=∃ i ys its k bM H',UZ X' D fp tn W n s' i ys its k bM H'
theorem JC {X':Cx} {D:Addr} {fp:List Addr} {tn:Nat->Heap->Prop} {W:Nat->Nat->List V->St->Hp->Prop} {n:Nat} {s':Shared} {P:Prop} (h:MD X' D fp tn W n s') (k:∀ i ys its k bM H',UZ X' D fp tn W n s' i ys its k bM H'->P):P:=by
 obtain ⟨_,_,_,_,_,_,t⟩:=h
 exact k _ _ _ _ _ _ t
theorem ME {gd:Cx->Prop} {X:Cx} {pins:List (Addr×Obj)} {σ:St} {tg:Expr} {R:It->Hp->Prop} {zS:Value} {s2:Shared} {P:Value->Prop} (h:BE gd X pins σ tg R zS s2) (k:∀ it fp tn J H',Inv X pins σ H' s2->yD gd X.prog X.w X.K tg J fp it tn->tn 0 s2.heap->(∀ b∈fp,kr X pins H' b)->R J H'->P (.ref it)):P zS:=by
 obtain ⟨it,fp,tn,J,H',rfl,a,b,c,d,e⟩:=h
 exact k it fp tn J H' a b c d e
theorem rm (S:jZ X scope xs ix N') {gd:Cx->Prop} (hc:∀ cl C s2 H2 fp pins,gd (aQ X scope N' cl C s2 H2 fp pins)) (hg:∀ cl C s2 H2 fp pins,PG (aQ X scope N' cl C s2 H2 fp pins) tg g) (hf:∀ cl C s2 H2 fp pins,PF (aQ X scope N' cl C s2 H2 fp pins) ifs tc) (iS:∀ cl C s2 H2 fp pins,PE (aQ X scope N' cl C s2 H2 fp pins) elt te)
  {pins:List (Addr×Obj)} {σ:St} {s2:Shared} {Q:VK} {zS:Value} (h:BE gd X pins σ tg (fun J H1=>sC J xs.length ix g tc te σ H1 Q) zS s2) {cl:List (Str×Addr)} (h1:∀ n c,cl.lookup n=some c->X.env.cells.lookup n=some c) (h2:∀ n,(n,NameKind.free)∈scope.names->∃ c,cl.lookup n=some c)
  {use:Option (Value->Sem Unit)} {QQ:Value->Shared->Prop}
  (fin:∀ (D C:Addr) (H':Hp) (s1:Shared) (m:Str->Option Value),s1.heap.Ns C m->H' C=none->X.eJ.heap.objs.size<=C->C≠X.env.locals->(∀ a c,X.env.cells.lookup a=some c->c≠C)->(∀ p∈X.pn ++ pins,p.1≠C)->(∀ h',Heap.SameBut C s1.heap h'->Inv X pins σ H' { s1 with heap:=h' })->Q (.ref D) H'->
   compPost (model X.prog X.w) X.A X.xe use QQ (.ref D) C (.ok .next) s1):
  wpAny (model X.prog X.w) X.A (newList []) (fun acc iR=>wpAny (model X.prog X.w) X.A (newFunctionEnv scope X.env.globals cl [] X.env.qual none .none (some X.env)) (fun uq r6=>
   codeAny (model X.prog X.w) X.A (.compStart (.ListComp elt [⟨tg,iter,ifs,0⟩] scope pos) 0 zS acc { uq with scope:=relabel scope X.env }) (compPost (model X.prog X.w) X.A X.xe use QQ acc uq.locals) r6) X.xe iR) X.xe s2:=by
 refine ME (P:=fun zS=>wpAny (model X.prog X.w) X.A (newList []) (fun acc iR=>wpAny (model X.prog X.w) X.A (newFunctionEnv scope X.env.globals cl [] X.env.qual none .none (some X.env)) (fun uq r6=>
   codeAny (model X.prog X.w) X.A (.compStart (.ListComp elt [⟨tg,iter,ifs,0⟩] scope pos) 0 zS acc { uq with scope:=relabel scope X.env }) (compPost (model X.prog X.w) X.A X.xe use QQ acc uq.locals) r6) X.xe iR) X.xe s2) h fun it fp tn J H1 I2 T gz f2 hR=>?_
 clear h
 obtain ⟨W,⟨m0,w0⟩,turn⟩:=hR
 have qd:∀ b∈fp,b < s2.heap.objs.size:=fun b hb=>by
  obtain ⟨o,e,_⟩:=T.obj _ _ gz b hb
  exact Heap.lt_size e
 refine wpAny_newObj_type (wpAny_newFunctionEnv S.wG (by intro y hy; simp at hy) (fun iz kz iT=>?_) S.kind)
 dsimp only at kz iT ⊢
 generalize Fi:s2.heap.push { cls:=.type "list",dict:=none,data:=.seq ([]:List Value).toArray }=P2 at kz iT ⊢
 have hC:P2.objs.size=s2.heap.objs.size + 1:=by rw [<- Fi,Heap.size_push]
 have wH:s2.heap.objs.size≠P2.objs.size:=by rw [hC]; exact Nat.ne_of_lt (Nat.lt_succ_self _)
 have kA:s2.heap.objs.size<=P2.objs.size:=by rw [hC]; exact Nat.le_succ _
 have below:∀ b,b < s2.heap.objs.size->b≠P2.objs.size:=fun b hb=>by rw [hC]; exact Nat.ne_of_lt (Nat.lt_succ_of_lt hb)
 have old:∀ b o,s2.heap.get? b=some o->iz.get? b=some o:=fun b o e=>iT.extBut b o (below b (Heap.lt_size e)) (Heap.get?_push_of_some _ (Fi ▸ Heap.get?_push_of_some _ e))
 have qq:iz.get? s2.heap.objs.size=some (nK [] 0):=iT.extBut _ _ wH (Heap.get?_push_of_some _ (Fi ▸ Heap.get?_push_size _ rfl))
 generalize P2.objs.size=C at *
 generalize oN:s2.heap.objs.size=D at *
 have L7:∀ p∈X.pn ++ pins,p.1≠D /\ p.1≠C:=fun p hp=>by
  have:=Heap.lt_size (I2.pin p hp).1
  rw [oN] at this
  exact ⟨Nat.ne_of_lt this,Nat.ne_of_lt (Nat.lt_of_lt_of_le this kA)⟩
 have Jb:D∉fp:=fun hb=>Nat.lt_irrefl _ (qd D hb)
 have OH:C∉fp:=fun hb=>absurd (Nat.lt_of_lt_of_le (qd C hb) kA) (Nat.lt_irrefl _)
 have ur:∀ a c,X.env.cells.lookup a=some c->c≠D /\ c≠C:=fun a c e=>by
  obtain ⟨v,q⟩:=I2.cell a c e
  have:=q.lt
  rw [oN] at this
  exact ⟨Nat.ne_of_lt this,Nat.ne_of_lt (Nat.lt_of_lt_of_le this kA)⟩
 have B2:X.env.locals < D:=by have:=I2.lt; rw [oN] at this; exact this
 have OI:X.eJ.heap.objs.size<=D:=by rw [<- oN]; exact I2.sz
 have I3:=Av (s3:={ s2 with heap:=iz,toks:=s2.toks + ([]:List (Str×Value)).length }) S I2 (by rw [oN]; exact kA) h1 h2 f2 (by rw [oN]; exact qd) rfl rfl old kz
 have oy:∀ {H':Hp} {pp:List (Addr×Obj)},(∀ p∈pp,p.1∉fp)->(∀ b∈fp,H' b=none)->∀ b∈fp,kr (aQ X scope N' cl C s2 H1 fp pins) pp H' b:=fun {H' pp} B3 hn b hb=>by
  obtain ⟨f0,f1,f3,f4,f5,f6⟩:=f2 b hb
  refine ⟨hn b hb,fun z=>OH (by rw [<- show b=C from z]; exact hb),fun z=>?_,.inl hb,fun a c e=>f5 a c (h1 _ _ e),fun p hp=>?_⟩
  ·rcases List.mem_cons.mp (I2.fQ b z) with q | q
   ·exact f1 q
   ·exact f3 q
  ·rcases List.mem_append.mp hp with q | q
   ·exact f6 p q
   ·intro z; exact B3 p q (by rw [z]; exact hb)
 have L8:∀ b,D<=b->b∉mi X.stack:=fun b hb z=>by
  rcases List.mem_cons.mp (I2.fQ b z) with q | q
  ·rw [q] at hb; exact absurd (Nat.lt_of_lt_of_le B2 hb) (Nat.lt_irrefl _)
  ·exact I2.Ih (by rw [oN]; exact hb) q
 have loop:∀ iR:Shared,iR={ s2 with heap:=iz,toks:=s2.toks + ([]:List (Str×Value)).length }->
   codeAny (model X.prog X.w) X.A (.compLoop (.ListComp elt [⟨tg,iter,ifs,0⟩] scope pos) 0 (.ref it) (.ref D) (compEnvC scope cl C X.env)) (compPost (model X.prog X.w) X.A X.xe use QQ (.ref D) C) iR:=by
  rintro iR rfl
  refine sy (MD (aQ X scope N' cl C s2 H1 fp pins) D fp tn W) ?_ m0
   ⟨0,[],[],0,_,H1,?_,T.keep _ _ _ gz (fun b hb o e=>old b o e),fun b hb=>(f2 b hb).1,w0,.nil⟩
  ·refine fun n s' z=>JC z fun i ys its k bM H' t=>?_
   have I:=t.I
   have st:=t.st
   have fr:=t.fr
   have rv:=t.rv
   obtain ⟨hz,w⟩:=turn i n ys bM H' t.w
   have pD:=I.pin (D,nK its k) (List.mem_append_right _ List.mem_cons_self)
   have B3:∀ p∈[(D,nK its k)],p.1∉fp:=fun p hp=>by
    have e:p=(D,nK its k):=by simpa using hp
    rw [e]; exact Jb
   rcases w with ⟨stop,q⟩ | ⟨go,VY,step⟩
   ·refine wpAny_mono (T.done (aQ X scope N' cl C s2 H1 fp pins) rfl rfl rfl (hc _ _ _ _ _ _) i _ s' _ H' (fun _ _=>False) I (oy B3 fr) st stop) (fun r s1 hr=>?_) fun _ _ z=>z.elim
    obtain ⟨rfl,I1⟩:=hr
    obtain ⟨m,hn,_⟩:=I1.loc
    have p1:=I1.pin (D,nK its k) (List.mem_append_right _ List.mem_cons_self)
    have fC:H' C=none:=I1.free
    refine fin D C (upd H' D (.lst ys)) s1 m hn (by rw [aI (Ne.symm wH)]; exact fC) (Nat.le_trans OI kA) (Nat.ne_of_gt (Nat.lt_of_lt_of_le B2 kA)) (fun a c e=>(ur a c e).2) (fun p hp=>(L7 p hp).2) (fun h' hs=>?_) (q D p1.2.1)
    exact qW (N':=N') I2 (by rw [oN]; exact kA) (by rw [oN]; exact Nat.le_refl _) f2 I1 rv hz hs wH
   ·refine wpAny_mono (T.item (aQ X scope N' cl C s2 H1 fp pins) rfl rfl rfl (hc _ _ _ _ _ _) i _ s' _ H' (fun _ _=>False) I (oy B3 fr) st go) (fun r s4 hr=>?_) fun _ _ z=>z.elim
    obtain ⟨u,rfl,h4⟩:=hr
    refine wpAny_mono h4 (fun _ s5 h5=>?_) fun _ _ z=>z.elim
    obtain ⟨v,H5,I5,r5,y5,wq,Iq⟩:=h5
    have LA:=I5.pinned (oy B3 Iq) (T.obj _ _ wq)
    refine wpAny_mono (hg cl C s2 H1 fp pins _ s5 bM H5 v u _ LA r5 (step v H5 y5)) (fun _ s6 h6=>?_) fun _ _ z=>z.elim
    obtain ⟨Aw,H6,I6,q6⟩:=h6
    have gone:∀ {τ:St} {H9:Hp} {s9:Shared},Inv (aQ X scope N' cl C s2 H1 fp pins) ([(D,nK its k)] ++ ie fp s5.heap) τ H9 s9->tn (i + 1) s9.heap /\ ∀ b∈fp,H9 b=none:=fun {τ H9 s9} I9=>
     ⟨T.keep _ _ _ wq fun b hb o e=>(I9.pin (b,o) (List.mem_append_right _ (List.mem_append_right _ (dn hb e)))).1,fun b hb=>by
      obtain ⟨o,e,d⟩:=T.obj _ _ wq b hb
      exact (I9.pin (b,o) (List.mem_append_right _ (List.mem_append_right _ (dn hb e)))).2.1⟩
    refine wpAny_mono (hf cl C s2 H1 fp pins _ s6 Aw H6 _ I6 q6) (fun ok Wo Wp=>?_) fun _ _ z=>z.elim
    obtain ⟨U0,NR,NS⟩:=Wp
    cases ok with
    | false=>
      rw [if_neg Bool.false_ne_true] at NS ⊢
      obtain ⟨m',L9,w7⟩:=NS
      obtain ⟨g1,g2⟩:=gone NR
      exact ⟨m',L9,i + 1,ys,its,k,Aw,U0,NR.fX fun p hp=>NR.pin p (List.mem_append_right _ (List.mem_append_left _ hp)),g1,g2,w7,rv⟩
    | true=>
    rw [if_pos rfl] at NS ⊢
    refine wpAny_mono (iS cl C s2 H1 fp pins _ Wo Aw U0 _ NR NS) (fun y s7 h7=>?_) fun _ _ z=>z.elim
    obtain ⟨yv,H7,I7,r7,m',L9,w7⟩:=h7
    have p7:=I7.pin (D,nK its k) (List.mem_append_right _ (List.mem_append_left _ List.mem_cons_self))
    have hl:=rv.length
    refine call_meets F.slot_list_append ⟨_,p7.1,rfl⟩ F.entry_list_append (F.args_list_append_2 _ _) (PySem.list_append D its.toArray k y (by rw [List.size_toArray]; omega)) ⟨p7.1,?_⟩
    have q:=PySem.IsL.update p7.1 (·.push y)
    have uu:∀ b o,b≠D->s7.heap.get? b=some o->(s7.heap.update D (Obj.mapSeq (·.push y))).get? b=some o:=fun b o hb e=>(Heap.get?_update_other s7.heap _ (Ne.symm hb)).trans e
    have I8:Inv (aQ X scope N' cl C s2 H1 fp pins) (ie fp s5.heap) Aw H7 s7:=I7.fX fun p hp=>I7.pin p (List.mem_append_right _ (List.mem_append_right _ hp))
    have I9:Inv (aQ X scope N' cl C s2 H1 fp pins) (ie fp s5.heap) Aw H7 { s7 with heap:=s7.heap.update D (Obj.mapSeq (·.push y)) }:=I8.turned (t':=s7.toks) (it:=D) uu p7.2.1 wH (.inr (by show s2.heap.objs.size<=D; rw [oN]; exact Nat.le_refl _)) (fun a c e=>(ur a c (h1 _ _ e)).1) fun p hp z=>by
     rcases List.mem_append.mp hp with z' | z'
     ·exact (L7 p z').1 z
     ·exact Jb (by rw [<- z]; exact (mw z').1)
    refine ⟨m',L9,i + 1,ys ++ [yv],its ++ [y],(if (its.toArray.push y).size == its.toArray.size then k else k + 1),Aw,H7,I9.fX (pins':=[(D,nK (its ++ [y]) ((if (its.toArray.push y).size == its.toArray.size then k else k + 1)))]) fun p hp=>?_,T.keep _ _ _ wq fun b hb o e=>?_,fun b hb=>?_,w7,rv.append (.cons r7 .nil)⟩
    ·have e:p=(D,nK (its ++ [y]) ((if (its.toArray.push y).size == its.toArray.size then k else k + 1))):=by simpa using hp
     subst e
     refine ⟨by rw [q,List.push_toArray],p7.2.1,wH,L8 D (Nat.le_refl _),fun v z=>by cases z⟩
    ·have pb:=I7.pin (b,o) (List.mem_append_right _ (List.mem_append_right _ (dn hb e)))
     exact uu b o (fun z=>Jb (by rw [<- z]; exact hb)) pb.1
    ·obtain ⟨o,e,d⟩:=T.obj _ _ wq b hb
     exact (I7.pin (b,o) (List.mem_append_right _ (List.mem_append_right _ (dn hb e)))).2.1
  ·exact I3.fX fun p hp=>by
    have e:p=(D,nK [] 0):=by simpa using hp
    subst e
    exact ⟨qq,I2.bE.fresh (by rw [oN]; exact Nat.le_refl _),wH,L8 D (Nat.le_refl _),fun v z=>by cases z⟩
 exact codeAny_compStart_list (loop _ rfl) (T.self _ 0 _ _ _ (T.keep _ _ _ gz fun b hb o e=>old b o e) (loop _ rfl))
theorem Ax (S:jZ X scope xs ix N') {gd:Cx->Prop} (hc:∀ cl C s2 H2 fp pins,gd (aQ X scope N' cl C s2 H2 fp pins)) (hi:Lw gd X tg iter wi) (hg:∀ cl C s2 H2 fp pins,PG (aQ X scope N' cl C s2 H2 fp pins) tg g) (hf:∀ cl C s2 H2 fp pins,PF (aQ X scope N' cl C s2 H2 fp pins) ifs tc) (iS:∀ cl C s2 H2 fp pins,PE (aQ X scope N' cl C s2 H2 fp pins) elt te)
  (hs:∀ x,foldedSetIterable iter X.env x=pure x):PE X (.ListComp elt [⟨tg,iter,ifs,0⟩] scope pos) (w8 wi xs.length ix g tc te):=by
 intro pins s σ H Q I h
 obtain ⟨cl,mz,h1,h2⟩:=ky (scope:=scope) (env:=X.env) (fun y hy hk=>I.ok.has y.1 (S.free y hy hk))
 rw [eval_ListComp]
 refine wpAny_comprehension_free (use:=none) rfl hs mz S.kind S.names (wpAny_mono (hi pins s σ H _ I h) (fun xv bu iz=>wpAny_mono iz (fun it kc oJ=>?_) fun _ _ e=>e) fun _ _ e=>e)
 exact rm S hc hg hf iS oJ h1 h2 fun D C H' s1 m hn fC c1 c2 c3 c4 hI q=>⟨m,hn,fun h' lE=>⟨.ref D,H',hI h' lE,rfl,q⟩⟩
theorem rn {i:Nat} {y:Str} {py uK:Pos} (S:jZ X scope xs ix N') {gd:Cx->Prop} (hc:∀ cl C s2 H2 fp pins,gd (aQ X scope N' cl C s2 H2 fp pins)) (hi:Lw gd X tg iter wi) (hg:∀ cl C s2 H2 fp pins,PG (aQ X scope N' cl C s2 H2 fp pins) tg g) (hf:∀ cl C s2 H2 fp pins,PF (aQ X scope N' cl C s2 H2 fp pins) ifs tc) (iS:∀ cl C s2 H2 fp pins,PE (aQ X scope N' cl C s2 H2 fp pins) elt te)
  (hs:∀ x,foldedSetIterable iter X.env x=pure x) (MF:X.N.Nodup) (HL:X.N[i]?=some y) (hy:X.env.scope.names.lookup y=some .local) (MG:swapsWith (.ListComp elt [⟨tg,iter,ifs,0⟩] scope pos) (some (.Name y py)) uK.line X.env=pure true):
  PS X (.Assign [.Name y py] (.ListComp elt [⟨tg,iter,ifs,0⟩] scope pos) uK) (mq (w8 wi xs.length ix g tc te) (eX i)):=by
 intro pins s σ H D I h
 obtain ⟨cl,mz,h1,h2⟩:=ky (scope:=scope) (env:=X.env) (fun y hy hk=>I.ok.has y.1 (S.free y hy hk))
 rw [exec_Assign_Name_used _ _ _ _ MG]
 refine wpAny_bind (wpAny_standAt (wpAny_bind ?_))
 show wpAny _ X.A (do let _ <- comprehension (.ListComp elt [⟨tg,iter,ifs,0⟩] scope pos) scope X.env _ (newList []) false (eval iter X.env) (some (assign (.Name y py) X.env))) _ _ s
 refine wpAny_bind (wpAny_mono (wpAny_comprehension_free (use:=some (assign (.Name y py) X.env)) (Q:=fun _ s'=>SP X pins D .next s') rfl hs mz S.kind S.names
  (wpAny_mono (hi pins s σ H _ I h) (fun xv bu iz=>wpAny_mono iz (fun it kc oJ=>?_) fun _ _ e=>e) fun _ _ e=>e)) (fun _ s' hq=>wpAny_pure (wpAny_pure hq)) fun _ _ e=>e)
 refine rm S hc hg hf iS oJ h1 h2 fun A C H' s1 m hn fC c1 c2 c3 c4 hI q=>?_
 have I1:Inv X pins σ H' s1:=hI s1.heap (.refl ..)
 refine wpAny_assign_Name (qL I1 MF HL (.inl hy) (show RelV (.ref A) (.ref A) from rfl) (fun s3 I3 ch=>?_) (.inr hy))
 obtain ⟨a,L4,ha⟩:=ch
 have Wq:C≠a:=by
  rcases ha with z | z
  ·rw [z]; exact c2
  ·intro e; exact c3 y a z e.symm
 refine ⟨m,hn.sameBut L4 Wq,fun h' lE=>?_⟩
 exact ⟨_,H',I3.turned (t':=s3.toks) (it:=C) (fun b o hb e=>(lE.2 b hb).trans e) fC c2 (.inr c1) c3 c4,q⟩
end
def jB (sc scope:Scope) (N:List Str) (xs:List Str) (ix:List Nat) (N':List Str):Bool:=
 (scope.kind == .function) && scope.names.all (fun y=> !(y.2 == .cell)) && scope.names.all (fun y=> !(y.2 == .local) || (scope.names.lookup y.1 == some .local))
 && scope.names.all (fun y=> !(y.2 == .free) || (sc.names.lookup y.1 == some .cell || sc.names.lookup y.1 == some .free))
 && (uv sc scope).all (fun y=> !(y.2 == .cell || y.2 == .free) || scope.names.any (fun z=>z.1 == y.1 && z.2 == .free))
 && (N' == xs ++ ix.map fun j=>N.getD j "") && ix.all (fun j=>decide (j < N.length) && scope.names.any (fun z=>z.1 == N.getD j "" && z.2 == .free) && ((uv sc scope).lookup (N.getD j "") == some .cell || (uv sc scope).lookup (N.getD j "") == some .free))
theorem kH {sc scope:Scope} {N:List Str} {xs:List Str} {ix:List Nat} {N':List Str} (h:jB sc scope N xs ix N'=true) (e1:X.env.scope=sc) (e2:X.N=N):jZ X scope xs ix N':=by
 subst e1 e2
 unfold jB at h
 simp only [Bool.and_eq_true,List.all_eq_true,Bool.or_eq_true,Bool.not_eq_true',List.any_eq_true,decide_eq_true_eq,beq_iff_eq,beq_eq_false_iff_ne] at h
 obtain ⟨⟨⟨⟨⟨⟨a1,a2⟩,a3⟩,a5⟩,a6⟩,a7⟩,a8⟩:=h
 refine ⟨a1,a2,fun y hy hk=>(a3 y hy).elim (fun z=>absurd hk z) id,fun y hy hk=>(a5 y hy).elim (fun z=>absurd hk z) id,fun n _ hn=>?_,a7,fun j hj=>?_⟩
 ·have:∃ k,(n,k)∈uv X.env.scope scope /\ (k=NameKind.cell \/ k=NameKind.free):=by
   rcases hn with z | z
   ·exact ⟨_,lookup_mem z,.inl rfl⟩
   ·exact ⟨_,lookup_mem z,.inr rfl⟩
  obtain ⟨k,hk,yM⟩:=this
  rcases a6 (n,k) hk with z | ⟨z,hz,e1,e2⟩
  ·exfalso
   simp at z
   rcases yM with q | q
   ·exact z.1 q
   ·exact z.2 q
  ·obtain ⟨z1,z2⟩:=z
   cases e1; cases e2; exact hz
 ·obtain ⟨⟨b1,⟨z,hz,e1,e2⟩⟩,b3⟩:=a8 j hj
  refine ⟨b1,?_,b3⟩
  obtain ⟨z1,z2⟩:=z
  cases e2
  have Ab:z1=X.N.getD j "":=e1
  rw [<- Ab]; exact hz
end
end L2
namespace L2
open PySem PySem.Spec PyProof.Rows LS
def pd (f:D->Option (Option D)):List D->Option (List D)
 | []=>some []
 | d :: ds=>(f d).bind fun o=>(pd f ds).bind fun xs=>some (match o with | some x=>x :: xs | none=>xs)
def cz (gi:DS->Option (List D)) (k:Nat) (ix:List Nat) (gt:D->DS->Option DS) (gc:DS->Option Bool) (ge:DS->Option D):DS->Option (List D):=fun δ=>(gi δ).bind fun ds=>if ds.length<=100000 then
 pd (fun d=>(gt d (List.replicate k none ++ c5 ix δ)).bind fun dZ=>(gc dZ).bind fun b=>if b=true then (ge dZ).map some else some none) ds else none
def JD (k:Nat) (gt:D->DS->Option DS):Prop:=∀ d c dZ,gt d (List.replicate k none ++ c)=some dZ->∃ own:DS,own.length=k /\ dZ=own ++ c
theorem lQ:JD 1 (aE 0):=fun d c dZ h=>by cases h; exact ⟨[some d],rfl,rfl⟩
set_option tactic.hygienic true in
theorem Pd:JD 2 (fU 2 (bJ (aE 0) (bJ (aE 1) gK))):=fun d c dZ h=>by
 unfold fU at h
 split at h
 ·split at h
  ·rename_i ds hl
   match ds,hl with
   | [a,b],_=>cases h; exact ⟨[some a,some b],rfl,rfl⟩
  ·cases h
 ·cases h
section
variable {K:PySem.W.Frag} {O:List Nat} {U A0:List Addr} {σ:St} {δ:DS} {H H1:Hp}
theorem Rel.weak {own c:DS} (R:Rel K [] U A0 σ (own ++ c) H):Rel K [] U A0 σ (List.replicate own.length none ++ c) H where
 len:=by rw [R.len]; simp
 fz:=fun i e hi q=>by
  by_cases h:i < own.length
  ·rw [List.getElem?_append_left (by simpa using h),List.getElem?_replicate,if_pos h] at q
   cases q
  ·refine R.fz i e hi ?_
   rw [List.getElem?_append_right (by simpa using h)] at q
   rw [List.getElem?_append_right (by omega)]
   simpa using q
 ow:=fun i e hi=>by simp at hi
 inj:=fun i j d e l hi=>by simp at hi
 al:=R.al
theorem Rel.MH (R:Rel K O U A0 σ δ H) {ix:List Nat} (k:Nat) (uB:∀ j∈ix,j∉O):Rel K [] U A0 (List.replicate k none ++ L2.gf ix σ) (List.replicate k none ++ c5 ix δ) H where
 len:=by simp [L2.gf,c5]
 fz:=fun i e _ q=>by
  by_cases h:i < k
  ·rw [List.getElem?_append_left (by simpa using h),List.getElem?_replicate,if_pos h] at q
   cases q
  ·rw [List.getElem?_append_right (by simpa using h)] at q ⊢
   simp only [List.length_replicate] at q ⊢
   unfold c5 at q
   unfold L2.gf
   rw [List.getElem?_map] at q ⊢
   cases ei:ix[i - k]? with
   | none=>rw [ei] at q; cases q
   | some j=>
     rw [ei] at q
     simp only [Option.map_some,Option.some.injEq] at q
     obtain ⟨u,hu,hd⟩:=R.fz j e (uB j (List.mem_of_getElem? ei)) (join_some q)
     exact ⟨u,by simp [hu],hd⟩
 ow:=fun i e hi=>by simp at hi
 inj:=fun i j d e l hi=>by simp at hi
 al:=R.al
structure CB (K:PySem.W.Frag) (U A0:List Addr) (H1:Hp) (ds xs:List D) (F:D->Option (Option D)) (base:DS) (i:Nat) (ys:List V) (τ:St) (H2:Hp) (zs rest:List D):Prop where
 le:i<=ds.length
 s:az H1 H2
 R:Rel K [] U A0 τ base H2
 yl:ys.length<=i
 hz:cy K (wo H2 (U ++ A0)) ys zs
 he:pd F (ds.drop i)=some rest
 hx:zs ++ rest=xs
def Wr (K:PySem.W.Frag) (U A0:List Addr) (H1:Hp) (ds xs:List D) (F:D->Option (Option D)) (base:DS) (i m:Nat) (ys:List V) (τ:St) (H2:Hp):Prop:=m=ds.length - i /\ ∃ zs rest,CB K U A0 H1 ds xs F base i ys τ H2 zs rest
theorem Ay {J:It} {ix:List Nat} {k:Nat} {gt:D->DS->Option DS} {gc:DS->Option Bool} {ge:DS->Option D} {ds xs:List D} {Q:VK} (own:JD k gt) (R:Rel K O U A0 σ δ H) (s:az H H1) (uB:∀ j∈ix,j∉O) (hw:WalksS K (U ++ A0) H1 J ds)
  (hl:ds.length<=100000) (e:pd (fun d=>(gt d (List.replicate k none ++ c5 ix δ)).bind fun dZ=>(gc dZ).bind fun b=>if b=true then (ge dZ).map some else some none) ds=some xs)
  (q:∀ r ys H',az H H'->H r=none->H' r=some (.lst ys)->cy K (wo H' (r :: (U ++ A0))) ys xs->Q (.ref r) H'):sC J k ix (tG K [] gt) (tT K [] gc) (tE K [] ge) σ H1 Q:=by
 have NI:(100000:Nat) < sizeLine:=by decide
 obtain ⟨F,hF⟩:∃ F:D->Option (Option D),F=fun d=>(gt d (List.replicate k none ++ c5 ix δ)).bind fun dZ=>(gc dZ).bind fun b=>if b=true then (ge dZ).map some else some none:=⟨_,rfl⟩
 rw [<- hF] at e
 refine ⟨Wr K U A0 H1 ds xs F (List.replicate k none ++ c5 ix δ),⟨ds.length,rfl,[],xs,Nat.zero_le _,az.refl _,(R.same s).MH k uB,Nat.le_refl _,.nil,e,rfl⟩,?_⟩
 rintro i m ys τ H2 ⟨rfl,zs,rest,w⟩
 have hle:=w.le
 have HB:=w.yl
 have he:=w.he
 refine ⟨by omega,?_⟩
 obtain ⟨Jj,oW⟩:=hw i H2 w.s
 by_cases g5:i < ds.length
 ·obtain ⟨go,NM⟩:=Jj _ (List.getElem?_eq_getElem g5)
  rw [List.drop_eq_getElem_cons g5,pd] at he
  generalize ds[i]=d at NM he
  obtain ⟨o,e1,e2⟩:=bind1 he
  obtain ⟨rs,e3,e4⟩:=bind1 e2
  rw [hF] at e1
  obtain ⟨dZ,f1,f2⟩:=bind1 e1
  obtain ⟨b,f3,f4⟩:=bind1 f2
  obtain ⟨lQ,ol,oe⟩:=own d _ dZ f1
  refine .inr ⟨go,by omega,fun v H3 y=>?_⟩
  obtain ⟨s3,hv⟩:=NM v H3 y
  refine ⟨U,A0,_,d,dZ,w.R.same s3,hv,f1,fun Aw R3=>⟨U,A0,dZ,b,R3,f3,fun H4 s4=>?_⟩⟩
  have wk:∀ {H':Hp},az H3 H'->Rel K [] U A0 Aw (List.replicate k none ++ c5 ix δ) H':=fun {H'} s'=>by
   rw [<- ol]
   rw [oe] at R3
   exact (R3.same s').weak
  have lt:ds.length - (i + 1) < ds.length - i:=Nat.sub_lt_sub_left g5 (Nat.lt_succ_self i)
  cases b with
  | true=>
    rw [if_pos rfl] at f4
    dsimp only
    rw [if_pos rfl]
    cases eg:ge dZ with
    | none=>rw [eg] at f4; cases f4
    | some x=>
      rw [eg] at f4; cases f4
      cases e4
      exact ⟨U,A0,dZ,x,R3.same s4,eg,fun u H5 s5 hu=>⟨_,lt,rfl,zs ++ [x],rs,g5,((w.s.trans s3).trans s4).trans s5,wk (s4.trans s5),by rw [List.length_append]; exact Nat.succ_le_succ HB,(w.hz.same (cq ((s3.trans s4).trans s5))).app (.cons hu .nil),e3,by rw [<- w.hx,List.append_assoc]; rfl⟩⟩
  | false=>
    rw [if_neg Bool.false_ne_true] at f4
    dsimp only
    rw [if_neg Bool.false_ne_true]
    cases f4
    cases e4
    exact ⟨_,lt,rfl,zs,rs,g5,(w.s.trans s3).trans s4,wk s4,Nat.le_succ_of_le HB,w.hz.same (cq (s3.trans s4)),e3,w.hx⟩
 ·have hi:i=ds.length:=Nat.le_antisymm hle (Nat.le_of_not_lt g5)
  subst hi
  rw [List.drop_length,pd] at he
  cases he
  have hx:=w.hx
  rw [List.append_nil] at hx
  subst hx
  exact .inl ⟨oW rfl,fun p hp=>qX (s.trans w.s) q p ys hp w.hz⟩
end
section
variable {X:Cx} {O:List Nat} {fr:Fr} {scope:Scope} {elt iter tg:Expr} {ifs:List Expr} {pos:Pos} {gi:DS->Option (List D)} {ge:DS->Option D} {gt:D->DS->Option DS} {gc:DS->Option Bool} {k:Nat}
theorem PF.mono {t t':TT} (h:PF X ifs t) (m:∀ σ H Q,t' σ H Q->t σ H Q):PF X ifs t':=fun pins s σ H Q I q=>h pins s σ H Q I (m σ H Q q)
theorem fE:PF X [] (tT X.K O fun _=>some true):=JB.mono fun σ H Q hh=>hh.e fun U A0 δ b R e q=>by cases e; exact q H (az.refl H)
set_option tactic.hygienic true in
theorem pe {K:PySem.W.Frag} {ix:List Nat} (own:JD k gt) (uB:∀ j∈ix,j∉O) {σ:St} {H:Hp} {Q:VK}:tN K O (cz gi k ix gt gc ge) σ H Q->w8 (HF K O gi) k ix (tG K [] gt) (tT K [] gc) (tE K [] ge) σ H Q:=fun ⟨U,A0,δ,xs,R,ed,q⟩=>by
 obtain ⟨ds,e1,e2⟩:=bind1 ed
 split at e2
 ·rename_i hl
  exact ⟨U,A0,δ,ds,R,e1,fun J H1 s hw=>Ay own R s uB hw hl e2 q⟩
 ·cases e2
theorem dD (sc:Scope) (N:List Str) (ix:List Nat) (N' xs:List Str) (own:JD k gt) (hi:PI X tg iter (HF X.K O gi)) (hg:∀ cl C s2 H2 fp pins,PG (aQ X scope N' cl C s2 H2 fp pins) tg (tG X.K [] gt)) (hf:∀ cl C s2 H2 fp pins,PF (aQ X scope N' cl C s2 H2 fp pins) ifs (tT X.K [] gc))
  (iS:∀ cl C s2 H2 fp pins,PE (aQ X scope N' cl C s2 H2 fp pins) elt (tE X.K [] ge)) (uB:∀ j∈ix,j∉O:=by decide) (hk:jB sc scope N xs ix N'=true:=by decide +kernel) (hl:xs.length=k:=by rfl)
  (e1:X.env.scope=sc:=by rfl) (e2:X.N=N:=by rfl) (hc:X.calm=true:=by rfl) (hs:∀ x,foldedSetIterable iter X.env x=pure x:=by intro _; rfl):PE X (.ListComp elt [⟨tg,iter,ifs,0⟩] scope pos) (tN X.K O (cz gi k ix gt gc ge)):=by
 subst hl
 exact (Ax (gd:=ub) (kH hk e1 e2) (fun _ _ _ _ _ _=>hc) hi hg hf iS hs).mono fun _ _ _=>pe own uB
theorem uL {i:Nat} {y:Str} {py uK:Pos} (sc:Scope) (N:List Str) (ix:List Nat) (N' xs:List Str) (MF:X.N.Nodup) (HL:X.N[i]?=some y) (hy:X.env.scope.names.lookup y=some .local) (own:JD k gt) (hi:PI X tg iter (HF X.K O gi))
  (hg:∀ cl C s2 H2 fp pins,PG (aQ X scope N' cl C s2 H2 fp pins) tg (tG X.K [] gt)) (hf:∀ cl C s2 H2 fp pins,PF (aQ X scope N' cl C s2 H2 fp pins) ifs (tT X.K [] gc)) (iS:∀ cl C s2 H2 fp pins,PE (aQ X scope N' cl C s2 H2 fp pins) elt (tE X.K [] ge))
  (uB:∀ j∈ix,j∉O:=by decide) (hk:jB sc scope N xs ix N'=true:=by decide +kernel) (hl:xs.length=k:=by rfl)
  (e1:X.env.scope=sc:=by rfl) (e2:X.N=N:=by rfl) (hc:X.calm=true:=by rfl) (hs:∀ x,foldedSetIterable iter X.env x=pure x:=by intro _; rfl) (MG:swapsWith (.ListComp elt [⟨tg,iter,ifs,0⟩] scope pos) (some (.Name y py)) uK.line X.env=pure true:=by rfl):
  PS X (.Assign [.Name y py] (.ListComp elt [⟨tg,iter,ifs,0⟩] scope pos) uK) (mq (tN X.K O (cz gi k ix gt gc ge)) (eX i)):=by
 subst hl
 exact (rn (gd:=ub) (kH hk e1 e2) (fun _ _ _ _ _ _=>hc) hi hg hf iS hs MF HL hy MG).mono fun _ _ _ h=>pe own uB h
end
section
variable {X:Cx}
def w9 (K:PySem.W.Frag):R2:=fun x y H Q=>∃ a b ys,x=.ref a /\ y=.ref b /\ jk K H a [] /\ jk K H b ys /\ Q (.ref b) H
theorem CD:gH X (binaryOp .Add) (w9 X.K):=by
 intro pins s σ H x y v u Q I rx ry h
 obtain ⟨a,b,ys,rfl,rfl,ha,hb,q⟩:=h
 cases rx
 cases ry
 obtain ⟨its,r1,p1,_⟩:=I.tuple ha
 obtain ⟨qk,r2,p2,_⟩:=I.tuple hb
 have e:=r1.nR.mpr rfl
 subst e
 obtain ⟨⟨c1,d1,ZH,Pe⟩,ho,hc,n,hd⟩:=id p1
 obtain ⟨⟨c2,d2,ZI,E4⟩,iw,hc2,n2,hd2⟩:=id p2
 simp only at hc hd hc2 hd2
 subst hc hd hc2 hd2
 exact concat_meets ⟨_,ho,rfl⟩ ⟨_,iw,rfl⟩ noFill_tuple_add seq_tuple_add PySem.F.slot_tuple_add PySem.F.entry_tuple_add (PySem.F.args_tuple_add_2 _ _) (tuple_addW0 a b #[] qk.toArray n n2 d1 d2 Pe E4 (by simp)) ⟨ho,iw,⟨.ref b,H,I,rfl,q⟩⟩
end
def ba (a b:D):Option D:=match a,b with
 | .tuple [],.tuple l=>some (.tuple l)
 | a,b=>Jg a b
theorem bq {X:Cx}:gH X (binaryOp .Add) (fun x y H Q=>yR X.K x y H Q \/ w9 X.K x y H Q):=Fm.or CD
theorem aZ {K:PySem.W.Frag}:ik K (fun x y H Q=>yR K x y H Q \/ w9 K x y H Q) ba:=by
 intro A H x y dx dy d Q al hx hy e q
 unfold ba at e
 split at e
 ·cases e
  have hf:=hy.fz
  obtain ⟨a,xs,rfl,h1,h2⟩:=hx.tuple
  obtain ⟨b,zs,rfl,h3,h4⟩:=hy.tuple
  cases h2
  exact .inr ⟨a,b,zs,rfl,rfl,h1,h3,q _ H (az.refl H) hf⟩
 ·exact .inl (Fo A H x y _ _ d Q al hx hy e q)
def MI (K:PySem.W.Frag) (a:Addr):It:=
 ⟨fun i H=>∃ xs x,jk K H a xs /\ xs[i]?=some x,fun i H x H'=>∃ p v,H p=none /\ x=.ref p /\ H'=upd H p (.tup [.int i,v]) /\ ∀ xs,jk K H a xs->xs[i]?=some v,fun i H=>∃ xs,jk K H a xs /\ xs.length=i⟩
theorem xa {P:Program} {w:World} {K:PySem.W.Frag} {es:List Expr} {kk} {ig:Pos} (a e it:Addr) (iU:e≠it):Turn P w K (.Tuple es kk ig) (MI K a) [e,it] e (fun i h=>(∃ old,IsEnum h e it i old) /\ h.IsTupleIter it a i) where
 mem:=by simp
 obj:=fun i h st b hb=>by
  obtain ⟨⟨old,he⟩,o,ho,c,d⟩:=st
  rcases List.mem_cons.mp hb with z | z
  ·subst z; exact ⟨_,he,fun v z=>by cases z⟩
  ·have z:b=it:=by simpa using z
   subst z; exact ⟨o,ho,fun v z=>by rw [d] at z; cases z⟩
 keep:=fun i h h' st k=>by
  obtain ⟨⟨old,he⟩,gz⟩:=st
  exact ⟨⟨old,k e (by simp) _ he⟩,gz.at fun o eo=>k it (by simp) o eo⟩
 item:=by
  intro X hP hw hK hc i pins s σ H E I hf st hg
  subst hP hw hK
  obtain ⟨xs,x,hq,hx⟩:=hg
  obtain ⟨its,rv,p,hz⟩:=I.tuple hq
  obtain ⟨u,hu,ru⟩:=rv.get hx
  obtain ⟨⟨old,he⟩,gz⟩:=st
  have hp:s.heap.IsTuple a its.toArray:=p
  have Pf:e≠a:=fun z=>by
   obtain ⟨o,ho,mz,_⟩:=hp
   rw [<- z] at ho
   have:=ho.symm.trans he
   cases this
   exact absurd (Value.type.inj mz) (by decide)
  have JE:a≠it:=fun z=>by
   obtain ⟨o,ho,mz,_⟩:=hp
   obtain ⟨o2,iw,pf,_⟩:=gz
   rw [z] at ho
   have:=ho.symm.trans iw
   cases this
   rw [mz] at pf
   exact absurd (Value.type.inj pf) (by decide)
  have FE:i < its.toArray.size:=by
   have:=(List.getElem?_eq_some_iff.mp hu).1
   simpa using this
  refine wpAny_pyNext_enum_itemD (g7 (A:=X.A.in1) (I.ok.hd hc) it a JE its.toArray) he ⟨gz,hp⟩ FE iU (by simp [iU,Pf]) fun y h1 tk hy zP CF KW Fv wa=>?_
  have Pg:y=u:=by
   have h3:its.toArray[i]?=some u:=by simpa using hu
   have h4:its.toArray[i]?=some y:=hy
   rw [h3] at h4; cases h4; rfl
  subst Pg
  refine ⟨_,rfl,wpAny_letOwnedTupleGo_enum zP fun h2 Cm kb=>?_⟩
  replace kb:Heap.SameBut e h1 h2:=kb
  have HE:e < s.heap.objs.size:=Heap.lt_size he
  have I1:Inv X pins σ H { s with heap:=h2,toks:=tk + 1 }:=I.g6 (t':=tk + 1) (ch:=[e,it]) (fun b o hb eo=>by
   simp only [List.mem_cons,List.not_mem_nil,or_false,not_or] at hb
   exact (kb.2 b hb.1).trans (wa b o hb.1 hb.2 eo)) hf
  have Jo:IsTup h2 s.heap.objs.size [Value.int i tk,y].toArray:=⟨_,(kb.2 _ (Nat.ne_of_gt HE)).trans KW,rfl,_,rfl⟩
  have jV:H s.heap.objs.size=none:=I.bE.fresh (Nat.le_refl _)
  have fo:=I.mr (H':=H) (Nat.le_refl _) jV
  have I2:Inv X pins σ (upd H s.heap.objs.size (.tup [.int i,x])) { s with heap:=h2,toks:=tk + 1 }:=I1.si jV (Nat.le_trans I.sz (Nat.le_refl _)) fo.2.1 fo.2.2.2.2.1 fo.2.2.2.2.2 Jo (.cons ⟨_,rfl⟩ (.cons ru .nil)) (by show 2<=sizeLine; decide)
  refine ⟨.ref s.heap.objs.size,_,I2,rfl,⟨_,x,jV,rfl,rfl,fun ys hy=>by rw [I.mo hy hq]; exact hx⟩,⟨⟨y,Cm⟩,CF.1.extBut kb.extBut (Ne.symm iU)⟩,fun b hb=>?_⟩
  have g5:b < s.heap.objs.size:=by
   rcases List.mem_cons.mp hb with z | z
   ·subst z; exact HE
   ·have z:b=it:=by simpa using z
    subst z
    obtain ⟨o,ho,_⟩:=gz
    exact Heap.lt_size ho
  rw [aI (Nat.ne_of_lt g5)]
  exact (hf b hb).1
 done:=by
  intro X hP hw hK hc i pins s σ H E I hf st hg
  subst hP hw hK
  obtain ⟨xs,hq,hx⟩:=hg
  obtain ⟨its,rv,p,hz⟩:=I.tuple hq
  obtain ⟨⟨old,he⟩,gz⟩:=st
  have hp:s.heap.IsTuple a its.toArray:=p
  have JE:a≠it:=fun z=>by
   obtain ⟨o,ho,mz,_⟩:=hp
   obtain ⟨o2,iw,pf,_⟩:=gz
   rw [z] at ho
   have:=ho.symm.trans iw
   cases this
   rw [mz] at pf
   exact absurd (Value.type.inj pf) (by decide)
  have hl:=rv.length
  have hsz:its.toArray.size=i:=by rw [List.size_toArray,<- hl]; exact hx
  refine wpAny_pyNext_enum_endD (g7 (A:=X.A.in1) (I.ok.hd hc) it a JE its.toArray) he ⟨by rw [hsz]; exact gz,hp⟩ fun h1 eb=>⟨rfl,?_⟩
  exact I.g6 (t':=s.toks) (ch:=[e,it]) (fun b o hb eo=>eb b o (fun z=>hb (by simp [z])) eo) hf
 self:=fun _ _ _ _ _ st h=>by
  obtain ⟨⟨old,he⟩,_⟩:=st
  exact wpAny_pyIter_enum he h
section
variable {X:Cx} {O:List Nat} {a:Expr} {ge:DS->Option D} {p pos:Pos} {es:List Expr} {kk} {ig:Pos}
def JF (K:PySem.W.Frag) (ta:TA):TI:=fun σ H R=>ta σ H fun vs H1=>∃ a xs,vs=[.ref a] /\ jk K H1 a xs /\ R (MI K a) H1
theorem CG {ta:TA} (hg:Gl X "enumerate") (hm:X.mg "enumerate"=none) (ha:PA X [a] ta) (hs:starEach [a] X.env=[(false,eval a X.env)]:=by rfl):PI X (.Tuple es kk ig) (.Call (.Name "enumerate" p) [a] [] pos) (JF X.K ta):=by
 intro pins s σ H R I h
 refine Call_ (ic I hg hm iX (PyProof.Rows.callWith_type1 (dh (ha pos pins s σ H _ I h) fun us s1 ⟨vs,H1,I1,r1,q1⟩=>?_) hs rfl))
 obtain ⟨b,xs,e,hq,q⟩:=q1
 subst e
 obtain ⟨u,rfl,ru⟩:=vals1 r1
 cases ru
 obtain ⟨its,rv,pl,hz⟩:=I1.tuple hq
 refine wV (show s1.heap.IsTuple b its.toArray from pl) fun h' he hit hsz hk=>?_
 refine wpAny_pyIter_enum he ?_
 refine ⟨s1.heap.objs.size + 1,[s1.heap.objs.size + 1,s1.heap.objs.size],_,_,H1,rfl,I1.kept (t':=s1.toks) hk,xa b _ s1.heap.objs.size (Nat.succ_ne_self _),⟨⟨_,he⟩,hit⟩,fun b hb=>?_,q⟩
 have hle:s1.heap.objs.size<=b:=by
  simp only [List.mem_cons,List.not_mem_nil,or_false] at hb
  rcases hb with z | z
  ·rw [z]; exact Nat.le_succ _
  ·rw [z]; exact Nat.le_refl _
 exact I1.mr hle (I1.bE.fresh hle)
def xb (g:DS->Option D):DS->Option (List D):=fun δ=>(g δ).bind fun | .tuple l=>some (fV l) | _=>none
theorem uM (hm:X.mg "enumerate"=none) (ha:PE X a (tE X.K O ge)) (hg:Gl X "enumerate":=by rfl) (hs:starEach [a] X.env=[(false,eval a X.env)]:=by rfl) (Mp:starEach ([]:List Expr) X.env=[]:=by rfl):PI X (.Tuple es kk ig) (.Call (.Name "enumerate" p) [a] [] pos) (tI X.K O (xb ge)):=
 (CG hg hm (bU ha df (by rw [hs,Mp])) hs).mono fun σ H Q hh=>hh.e fun U A0 δ ds R ed q=>by
  obtain ⟨x,e1,e2⟩:=bind1 ed
  cases x with
  | tuple l=>
    cases e2
    refine ⟨U,A0,δ,_,R,e1,fun v H' s h=>?_⟩
    cases h with
    | tup hq h=>
      refine ⟨_,_,rfl,.inl (bH.lF hq),q _ H' s ?_⟩
      intro A' i H2 s2 al
      have h2:=h.same s2
      have hL:jk X.K H2 _ _:=.inl (bH.lF (s2.lF hq))
      refine ⟨fun d hd=>?_,fun hi=>⟨_,hL,by rw [hi,mH,h2.len]⟩⟩
      obtain ⟨y,hy,rfl⟩:=rh hd
      obtain ⟨v,hv,Mq⟩:=h2.get hy
      refine ⟨⟨_,v,hL,hv⟩,fun z H3 hz=>?_⟩
      obtain ⟨p,v',hp,rfl,rfl,Mr⟩:=hz
      have:=Mr _ hL
      rw [hv] at this
      cases this
      exact ⟨bI hp _,HD.r8 al hp (.cons (.int _) (.cons Mq .nil))⟩
  | _=>cases e2
end
end L2
namespace L2
open PySem PySem.Spec PyProof.Rows
def JG:D->Option Key
 | .int i=>some (.inl i)
 | .str x=>some (.inr x)
 | _=>none
def keysOf:List D->Option (List Key)
 | []=>some []
 | d :: ds=>(JG d).bind fun k=>(keysOf ds).bind fun ks=>some (k :: ks)
def keyOf:D->Option (List Key)
 | .tuple ds=>keysOf ds
 | _=>none
theorem d6:∀ k:List Key,keysOf (k.map fJ)=some k
 | []=>rfl
 | .inl i :: k=>by rw [List.map_cons,keysOf,d6 k]; rfl
 | .inr i :: k=>by rw [List.map_cons,keysOf,d6 k]; rfl
theorem ro {K:PySem.W.Frag} {H:Hp}:∀ {xs:List V} {ds:List D} {k:List Key},cy K H xs ds->keysOf ds=some k->xs=k.map kV
 | _,_,_,.nil,e=>by cases e; rfl
 | _,_,_,.cons h t,e=>by
   rw [keysOf] at e
   obtain ⟨a,e1,e2⟩:=bind1 e
   obtain ⟨b,e3,e4⟩:=bind1 e2
   cases e4
   rw [ro t e3,List.map_cons]
   cases h with
   | int i=>cases e1; rfl
   | str x=>cases e1; rfl
   | _=>cases e1
def bD (kds:List (D×D)) (k:List Key):Option D:=(kds.find? fun p=>decide (keyOf p.1=some k)).map (·.2)
def fK (kds:List (D×D)) (k:List Key) (d:D):List (D×D):=
 if (kds.any fun p=>decide (keyOf p.1=some k))=true then kds.map (fun p=>if keyOf p.1=some k then (p.1,d) else p) else kds ++ [(.tuple (k.map fJ),d)]
theorem cI {p:D×D} {r:List (D×D)} {k:List Key} (e:keyOf p.1=some k):bD (p :: r) k=some p.2:=by simp [bD,List.find?_cons,e]
theorem cJ {p:D×D} {r:List (D×D)} {k:List Key} (e:¬ keyOf p.1=some k):bD (p :: r) k=bD r k:=by simp [bD,List.find?_cons,e]
theorem j3 (k:List Key):∀ kds:List (D×D),(kds.any fun p=>decide (keyOf p.1=some k))=(bD kds k).isSome
 | []=>rfl
 | p :: r=>by
   rw [List.any_cons]
   by_cases e:keyOf p.1=some k
   ·simp only [cI e,decide_eq_true e,Bool.true_or,Option.isSome_some]
   ·rw [cJ e,decide_eq_false e,Bool.false_or]; exact j3 k r
theorem rp (k j:List Key) (y:D):∀ kds:List (D×D),bD (kds.map fun p=>if keyOf p.1=some k then (p.1,y) else p) j=(bD kds j).map fun x=>if j=k then y else x
 | []=>rfl
 | p :: r=>by
   have ih:=rp k j y r
   rw [List.map_cons]
   by_cases h:keyOf p.1=some k
   ·rw [if_pos h]
    by_cases e:keyOf p.1=some j
    ·rw [cI (p:=(p.1,y)) e,cI e,Option.map_some,if_pos (Option.some.inj (e.symm.trans h))]
    ·rw [cJ (p:=(p.1,y)) e,cJ e,ih]
   ·rw [if_neg h]
    by_cases e:keyOf p.1=some j
    ·rw [cI (p:=p) e,cI e,Option.map_some,if_neg (fun z=>h (by rw [e,z]))]
    ·rw [cJ (p:=p) e,cJ e,ih]
theorem rq (j:List Key):∀ a b:List (D×D),bD (a ++ b) j=(bD a j).or (bD b j)
 | [],b=>by rw [List.nil_append]; rfl
 | p :: r,b=>by
   rw [List.cons_append]
   by_cases e:keyOf p.1=some j
   ·rw [cI e,cI e]; rfl
   ·rw [cJ e,cJ e]; exact rq j r b
theorem Az (kds:List (D×D)) (k j:List Key) (d:D):bD (fK kds k d) j=if j=k then some d else bD kds j:=by
 unfold fK
 by_cases a:(kds.any fun p=>decide (keyOf p.1=some k))=true
 ·rw [if_pos a,rp]
  rw [j3] at a
  by_cases e:j=k
  ·obtain ⟨x,hx⟩:=Option.isSome_iff_exists.mp a
   rw [if_pos e,e,hx,Option.map_some,if_pos rfl]
  ·rw [if_neg e]
   cases bD kds j with
   | none=>rfl
   | some x=>rw [Option.map_some,if_neg e]
 ·rw [if_neg a,rq]
  rw [j3] at a
  have hk:keyOf (.tuple (k.map fJ))=some k:=d6 k
  by_cases e:j=k
  ·subst e
   have:bD kds j=none:=by
    cases q:bD kds j with
    | none=>rfl
    | some x=>rw [q] at a; exact (a rfl).elim
   rw [if_pos rfl,this,cI hk]; rfl
  ·rw [if_neg e,cJ (by rw [hk]; exact fun z=>e (Option.some.inj z).symm)]
   exact Option.or_none
theorem j4 (kds:List (D×D)) (k:List Key) (d:D):(fK kds k d).length<=kds.length + 1:=by
 unfold fK
 split
 ·rw [List.length_map]; omega
 ·rw [List.length_append,List.length_cons,List.length_nil]; omega
inductive DK (K:PySem.W.Frag) (H:Hp):List (List Key×V)->List (D×D)->Prop
 | nil:DK K H [] []
 | cons {k:List Key} {v:V} {d:D} {r:List (List Key×V)} {s:List (D×D)}:HD K H v d->DK K H r s->DK K H ((k,v) :: r) ((.tuple (k.map fJ),d) :: s)
section
variable {K:PySem.W.Frag} {H H':Hp} {A:List Addr}
theorem DK.of:∀ {aK:List (List Key×V)} {kds:List (D×D)},kds.map (·.1)=aK.map (fun p=>PyData.tuple (p.1.map fJ))->cy K H (aK.map (·.2)) (kds.map (·.2))->DK K H aK kds
 | [],[],_,_=>.nil
 | [],_ :: _,e,_=>by simp at e
 | _ :: _,[],e,_=>by simp at e
 | (k,v) :: r,(x,d) :: s,e,h=>by
   simp only [List.map_cons,List.cons.injEq] at e
   obtain ⟨e1,e2⟩:=e
   subst e1
   cases h with
   | cons h1 h2=>exact .cons h1 (DK.of e2 h2)
theorem DK.keys:∀ {aK:List (List Key×V)} {kds:List (D×D)},DK K H aK kds->kds.map (·.1)=aK.map (fun p=>PyData.tuple (p.1.map fJ))
 | _,_,.nil=>rfl
 | _,_,.cons _ t=>by rw [List.map_cons,List.map_cons,DK.keys t]
theorem DK.vals:∀ {aK:List (List Key×V)} {kds:List (D×D)},DK K H aK kds->cy K H (aK.map (·.2)) (kds.map (·.2))
 | _,_,.nil=>.nil
 | _,_,.cons h t=>.cons h (DK.vals t)
theorem DK.own {aK:List (List Key×V)} {kds:List (D×D)} (h:DK K H aK kds):wK K H (.dT aK) (.dict kds):=.mj h.keys h.vals
theorem DK.same {aK:List (List Key×V)} {kds:List (D×D)} (s:az H H') (h:DK K H aK kds):DK K H' aK kds:=DK.of h.keys (h.vals.same s)
theorem DK.len:∀ {aK:List (List Key×V)} {kds:List (D×D)},DK K H aK kds->aK.length=kds.length
 | _,_,.nil=>rfl
 | _,_,.cons _ t=>by rw [List.length_cons,List.length_cons,DK.len t]
theorem DK.look (k:List Key):∀ {aK:List (List Key×V)} {kds:List (D×D)},DK K H aK kds->(∀ d,bD kds k=some d->∃ v,kx aK k=some v /\ HD K H v d) /\ (bD kds k=none->kx aK k=none)
 | _,_,.nil=>⟨fun d e=>(by cases e),fun _=>rfl⟩
 | _,_,.cons (k:=j) (v:=v) (d:=d) (r:=r) (s:=s) h t=>by
   have hj:keyOf (.tuple (j.map fJ))=some j:=d6 j
   by_cases e:j=k
   ·subst e
    rw [cI (p:=(PyData.tuple (j.map fJ),d)) hj,ju (p:=(j,v)) rfl]
    exact ⟨fun d' q=>by cases q; exact ⟨v,rfl,h⟩,fun q=>by cases q⟩
   ·rw [cJ (p:=(PyData.tuple (j.map fJ),d)) (by rw [hj]; exact fun z=>e (Option.some.inj z)),jv (p:=(j,v)) e]
    exact DK.look k t
theorem DK.rep (k:List Key) {v:V} {d:D} (hv:HD K H v d):∀ {aK:List (List Key×V)} {kds:List (D×D)},DK K H aK kds->DK K H (aK.map fun kv=>if kv.1=k then (kv.1,v) else kv) (kds.map fun p=>if keyOf p.1=some k then (p.1,d) else p)
 | _,_,.nil=>.nil
 | _,_,.cons (k:=j) h t=>by
   have hj:keyOf (.tuple (j.map fJ))=some j:=d6 j
   rw [List.map_cons,List.map_cons]
   by_cases e:j=k
   ·subst e
    rw [if_pos rfl,if_pos hj]; exact .cons hv (DK.rep j hv t)
   ·rw [if_neg e,if_neg (by rw [hj]; exact fun z=>e (Option.some.inj z))]; exact .cons h (DK.rep k hv t)
theorem DK.app:∀ {a:List (List Key×V)} {b:List (D×D)} {a':List (List Key×V)} {b':List (D×D)},DK K H a b->DK K H a' b'->DK K H (a ++ a') (b ++ b')
 | _,_,_,_,.nil,q=>q
 | _,_,_,_,.cons h t,q=>.cons h (DK.app t q)
theorem DK.put {aK:List (List Key×V)} {kds:List (D×D)} (h:DK K H aK kds) (k:List Key) {v:V} {d:D} (hv:HD K H v d):DK K H (putK aK k v) (fK kds k d):=by
 have e:(aK.any fun kv=>decide (kv.1=k))=kds.any fun p=>decide (keyOf p.1=some k):=by
  rw [oG,j3]
  cases q:bD kds k with
  | none=>rw [(h.look k).2 q]; rfl
  | some x=>obtain ⟨w,hw,_⟩:=(h.look k).1 x q; rw [hw]; rfl
 unfold putK fK
 rw [e]
 split
 ·exact h.rep k hv
 ·exact h.app (.cons hv .nil)
theorem gg.dk {x:V} {kds:List (D×D)} (h:gg K A H x (.dict kds)) (hf:Ae kds=false):∃ a aK,x=.ref a /\ H a=some (.dT aK) /\ DK K (wo H A) aK kds:=
 let ⟨a,aK,e,h1,h2,h3⟩:=h.dict hf; ⟨a,aK,e,h1,DK.of h2 h3⟩
theorem gg.key {y:V} {d:D} {k:List Key} (h:gg K A H y d) (e:keyOf d=some k):∃ b,y=.ref b /\ cx H b (k.map kV):=by
 cases d with
 | tuple ds=>
   obtain ⟨b,ys,rfl,hb,hd⟩:=h.Ma
   exact ⟨b,rfl,by rw [<- ro hd e]; exact hb⟩
 | _=>cases e
end
def jm (gd gk:DS->Option D):DS->Option D:=fun δ=>(gd δ).bind fun x=>(gk δ).bind fun y=>match x with
 | .dict kds=>if Ae kds=true then none else (keyOf y).bind fun k=>bD kds k
 | _=>none
def kI (gd gk ge:DS->Option D):DS->Option D:=fun δ=>(gd δ).bind fun x=>(gk δ).bind fun y=>(ge δ).bind fun z=>match x with
 | .dict kds=>if Ae kds=true then none else (keyOf y).bind fun k=>some ((bD kds k).getD z)
 | _=>none
def rA (i:Nat) (gk ge:DS->Option D):DS->Option Res:=fun δ=>(ge δ).bind fun d=>(af i δ).bind fun x=>(gk δ).bind fun y=>match x with
 | .dict kds=>(keyOf y).bind fun k=>if kds.length < 100000 then some (.nx (δ.set i (some (.dict (fK kds k d))))) else none
 | _=>none
def y3 (i:Nat) (g:DS->Option (List (D×D))):DS->Option Res:=fun δ=>(g δ).bind fun d=>some (.nx (δ.set i (some (.dict d))))
def HN:DS->Option (List (D×D)):=fun _=>some []
def xf (gk ge:DS->Option D):DS->Option (List (D×D)):=fun δ=>(gk δ).bind fun y=>(ge δ).bind fun d=>(keyOf y).bind fun k=>some [(.tuple (k.map fJ),d)]
def Ph (K:PySem.W.Frag) (O:List Nat) (g:DS->Option (List (D×D))):TE:=fun σ H Q=>∃ U A0 δ kds,Rel K O U A0 σ δ H /\ g δ=some kds /\
 ∀ r aK H',az H H'->H r=none->H' r=some (.dT aK)->DK K (wo H' (r :: (U ++ A0))) aK kds->Q (.ref r) H'
section
variable {X:Cx} {O:List Nat} {fr:Fr} {st:Stmt} {gd gk ge:DS->Option D} {gl:DS->Option (List (D×D))} {o i e f value:Expr} {pos apos cM:Pos}
set_option tactic.hygienic true in
theorem nX (hu:X.A.units + 1 < cLine) (ho:PE X o (g0 X.K O gd)) (hi:PE X i (g0 X.K O gk)) (hs:IT i:=by intro _ _; rfl):PE X (.Subscript o i pos) (tE X.K O (jm gd gk)):=(yJ hu ho hi hs).mono fun σ H Q hh=>hh.e fun U A0 δ d R ed q=>by
 obtain ⟨x,e1,e2⟩:=bind1 ed
 obtain ⟨y,e3,e4⟩:=bind1 e2
 refine ⟨U,A0,δ,x,R,e1,fun v H1 s1 h1=>⟨U,A0,δ,y,R.same s1,e3,fun v2 H2 s2 h2=>?_⟩⟩
 cases x with
 | dict kds=>
   have e4:(if Ae kds=true then none else (keyOf y).bind fun k=>bD kds k)=some d:=e4
   split at e4
   ·cases e4
   rename_i hf
   have hf:=Bool.eq_false_iff.mpr hf
   obtain ⟨k,e5,e6⟩:=bind1 e4
   obtain ⟨a,aK,rfl,ha,dk⟩:=(h1.same s2).dk hf
   obtain ⟨b,rfl,hb⟩:=h2.key e5
   obtain ⟨w,hw,hd⟩:=(dk.look k).1 d e6
   refine ⟨a,w,rfl,?_,q w H2 (s1.trans s2) hd⟩
   rw [<- hw]; exact qo.t ha hb
 | _=>cases e4
set_option tactic.hygienic true in
theorem pj (hu:X.A.units + 1 < cLine) (ho:PE X o (g0 X.K O gd)) (hi:PE X e (g0 X.K O gk)) (hx:PE X f (tE X.K O ge)) (m:M2 X o "get" apos e f cM:=by exact ⟨rfl,rfl,rfl,rfl⟩):PE X (.Call (.Attribute o "get" apos) [e,f] [] cM) (tE X.K O (kI gd gk ge)):=(BY hu ho hi hx m).mono fun σ H Q hh=>hh.e fun U A0 δ d R ed q=>by
 obtain ⟨x,e1,e2⟩:=bind1 ed
 obtain ⟨y,e3,e4⟩:=bind1 e2
 obtain ⟨z,e5,e6⟩:=bind1 e4
 refine ⟨U,A0,δ,x,R,e1,fun v H1 s1 h1=>?_⟩
 cases x with
 | dict kds=>
   have e6:(if Ae kds=true then none else (keyOf y).bind fun k=>some ((bD kds k).getD z))=some d:=e6
   split at e6
   ·cases e6
   rename_i hf
   have hf:=Bool.eq_false_iff.mpr hf
   obtain ⟨k,e7,e8⟩:=bind1 e6
   cases e8
   obtain ⟨a,aK,rfl,ha,dk⟩:=h1.dk hf
   refine ⟨a,rfl,.inr ⟨_,.inl ha⟩,U,A0,δ,y,R.same s1,e3,fun v2 H2 s2 h2=>⟨U,A0,δ,z,(R.same s1).same s2,e5,fun v3 H3 s3 h3=>?_⟩⟩
   obtain ⟨b,rfl,hb⟩:=(h2.same s3).key e7
   have U3:=dk.same (cq (A:=U ++ A0) (s2.trans s3))
   refine ⟨kx aK k,qo.t ((s2.trans s3) _ _ ha) hb,q _ H3 (s1.trans (s2.trans s3)) ?_⟩
   cases w:bD kds k with
   | none=>rw [(U3.look k).2 w]; exact h3
   | some d'=>obtain ⟨w',Ws,Bk⟩:=(U3.look k).1 d' w; rw [Ws]; exact Bk
 | _=>cases e6
set_option tactic.hygienic true in
theorem y4 {i:Nat} (h:PS X st (BU (qg i) (g0 X.K O gk) (tE X.K O ge))) (hi:i∈O:=by decide):PS X st (tS X.K O fr (rA i gk ge)):=h.mono fun E σ H hh=>hh.e fun H0 U A0 δ r R F ed P=>by
 obtain ⟨d,e1,e2⟩:=bind1 ed
 obtain ⟨x,e3,e4⟩:=bind1 e2
 obtain ⟨y,e5,e6⟩:=bind1 e4
 obtain ⟨l,o,hl,hU,h1,h2⟩:=R.ow i x hi (join_some e3)
 cases h2 with
 | lst _=>cases e6
 | mj kk hv=>
   obtain ⟨k,e7,e8⟩:=bind1 e6
   split at e8
   ·rename_i hz
    cases e8
    refine ⟨U,A0,δ,d,R,e1,fun v H1 s1 Wt=>⟨.ref l,hl,U,A0,δ,y,R.same s1,e5,fun v2 H2 s2 h3=>?_⟩⟩
    obtain ⟨b,rfl,hb⟩:=h3.key e7
    have dk:=DK.of kk hv
    have hlen:=dk.len
    have Wu:=dk.same (cq (A:=U ++ A0) (s1.trans s2))
    refine ⟨l,_,rfl,z8.t ((s1.trans s2) _ _ h1) hb (rZ (by omega)),?_⟩
    exact P U σ _ ((R.same (s1.trans s2)).Md hi hl hU (Wu.put k (Wt.same (cq s2))).own ⟨_,join_some e3⟩) ((F.grow (s1.trans s2)).put hU _)
   ·cases e8
theorem sD {i:Nat} (h:PS X st (mq (Ph X.K O gl) (eX i))) (hi:i∈O:=by decide):PS X st (tS X.K O fr (y3 i gl)):=h.mono fun E σ H hh=>hh.e fun H0 U A0 δ r R F ed P=>by
 obtain ⟨d,e1,e2⟩:=bind1 ed
 cases e2
 exact ⟨U,A0,δ,d,R,e1,fun r aK H' s hr h1 h2=>P (r :: U) _ H' (R.Mb s hr h1 h2.own hi) (F.more s hr)⟩
theorem FF:PE X (.Dict [] [] pos) (Ph X.K O HN):=BV.mono fun σ H Q ⟨U,A0,δ,d,R,ed,q⟩ p hp=>by
 cases ed
 exact q p [] _ (bI hp _) hp bw .nil
theorem Rel.MJ {K:PySem.W.Frag} {O:List Nat} {U A0:List Addr} {σ:St} {δ:DS} {H H':Hp} (R:Rel K O U A0 σ δ H) (s:az H H') {r:Addr} {o:HO} (hr:H r=none) (h:H' r=some o) (ho:Fk o):Rel K O U (r :: A0) σ δ H':=by
 have k:az (wo H (U ++ A0)) (wo H' (U ++ (r :: A0))):=fun b o q=>by
  obtain ⟨h1,h2⟩:=gZ q
  rw [bp]
  ·exact s b o h2
  ·simp only [List.mem_append,List.mem_cons,not_or] at h1 ⊢
   exact ⟨h1.1,bo h2 hr,h1.2⟩
 exact {
  len:=R.len
  fz:=fun i d hi e=>let ⟨v,a,b⟩:=R.fz i d hi e; ⟨v,a,b.same k⟩
  ow:=fun i d hi e=>let ⟨l,o,a,c,f,g⟩:=R.ow i d hi e; ⟨l,o,a,c,s _ _ f,g.same k⟩
  inj:=R.inj
  al:=⟨fun a ha=>by
   simp only [List.mem_append,List.mem_cons] at ha
   rcases ha with z | z | z
   ·exact (R.al.same s).1 a (by simp [z])
   ·subst z; exact ⟨_,h,ho⟩
   ·exact (R.al.same s).1 a (by simp [z]),(R.al.same s).2⟩ }
def JH (tk tv:TE):TE:=fun σ H Q=>∀ p,H p=none->wF [(tk,tv)] σ (upd H p (.dT [])) fun ps H2=>H2 p=some (.dT []) /\ ∃ b ks y,ps=[(.ref b,y)] /\ cx H2 b (ks.map kV) /\ Q (.ref p) (upd H2 p (.dT [(ks,y)]))
theorem CH {k v:Expr} {tk tv:TE} (hu:X.A.units + 1 < cLine) (hk:PE X k tk) (hv:PE X v tv):PE X (.Dict [some k] [v] pos) (JH tk tv):=by
 intro pins s σ H Q I q
 have hn:=I.bE.fresh (Nat.le_refl s.heap.objs.size)
 have I1:=I.laid (a:=s.heap.objs.size) (o:=.dT []) (h':=s.heap.push { cls:=.type "dict",data:=.dict #[] }) (t':=s.toks) (fun _ _ q=>Heap.get?_push_of_some _ q) (Nat.le_refl _) (uk s.heap I.NI)
 have pp:NK X pos [some k] [v] [(tk,tv)]:=BW hk hv Fe
 refine wpAny_Dict_any rfl rfl (by simp) (by simp) (dh (pp pins _ σ _ _ I1 (q _ hn)) fun ws s2 ⟨ps,H2,I2,rel,e,b,ks,y,e2,e4,q2⟩=>?_)
 subst e2
 cases rel with
 | @cons _ w _ _ h t=>
   cases t
   obtain ⟨u1,u2⟩:=w
   obtain ⟨r1,r2⟩:=h
   cases (show u1=Value.ref b from r1)
   have hf:storeAll s.heap.objs.size [(Value.ref b,u2)]=(do dictSet s.heap.objs.size (Value.ref b) u2):=by
    unfold storeAll
    rw [List.forIn_cons]
    simp
   rw [hf]
   obtain ⟨z,hd,xs,rl,dd⟩:=Hl I2.bE e
   cases rl
   refine wpAny_dictSet_heap (show X.A.units < cLine by omega) (oH I2.bE e4) dd (fun h' KP hs=>⟨.ref s.heap.objs.size,_,?_,rfl,q2⟩) (Nat.zero_le _)
   obtain ⟨q,es,ep,hq,h2,h3,h4,_,h5⟩:=KP
   have Pj:KT H2 [] []:=.nil
   refine rX I2 (by rw [e]; exact True.intro) hs ⟨q,hq⟩ ⟨small (by simp),hd,_,(Pj.put ks e4 r2).keeps fun c ys ec=>?_,q,es,ep,hq,h2,h3,h4,h5⟩
   exact ec.dT e
theorem uN {k v:Expr} (hu:X.A.units + 1 < cLine) (hk:PE X k (g0 X.K O gk)) (hv:PE X v (tE X.K O ge)):PE X (.Dict [some k] [v] pos) (Ph X.K O (xf gk ge)):=(CH hu hk hv).mono fun σ H Q ⟨U,A0,δ,d,R,ed,q⟩ p hp=>by
 obtain ⟨y,e1,e2⟩:=bind1 ed
 obtain ⟨d',e3,e4⟩:=bind1 e2
 obtain ⟨ks,e5,e6⟩:=bind1 e4
 cases e6
 have s0:=bI hp (.dT [])
 have R0:Rel X.K O U (p :: A0) σ δ (upd H p (.dT [])):=R.MJ s0 hp bw trivial
 refine ⟨U,p :: A0,δ,y,R0,e1,fun v H1 s1 h1=>⟨U,p :: A0,δ,d',R0.same s1,e3,fun w H2 s2 h2=>?_⟩⟩
 obtain ⟨b,rfl,hb⟩:=(h1.same s2).key e5
 have Fi:H2 p=some (.dT []):=(s1.trans s2) _ _ bw
 refine ⟨Fi,b,ks,w,rfl,hb,q p _ _ (s0.trans (s1.trans s2) |>.upd hp _) hp bw ?_⟩
 have ew:wo (upd H2 p (.dT [(ks,w)])) (p :: (U ++ A0))=wo H2 (p :: (U ++ A0)):=wJ (by simp)
 rw [ew]
 exact .cons (h2.same (fR fun a ha=>by simp only [List.mem_append,List.mem_cons] at ha ⊢; rcases ha with z | z | z; exact .inr (.inl z); exact .inl z; exact .inr (.inr z))) .nil
end
end L2
namespace LS
open PySem PySem.Spec PyProof.Rows
section
variable {prog:Program} {w:World} {A:Around} {E:Value->Shared->Prop} {s:Shared}
theorem Pk {T nw:String} {Bn:Builtin} {us:List Value} {kw:List (Str×Value)} {S:PySem.Spec} {Q:Value->Shared->Prop} (ft:TypeCalled T nw "object.__init__") (c1:checkTypeCall T ⟨us,kw⟩=pure ()) (c2:checkBuiltinCall nw ⟨.type T :: us,kw⟩=pure ())
  (en:entryFor table nw=some Bn) (g:Meets (Bn ⟨.type T :: us,kw⟩) S) (c3:∀ o,argsOk "object.__init__" ⟨o :: us,kw⟩) (gi:∀ o,Meets (Builtin.«object.__init__» ⟨o :: us,kw⟩) (fun _ R s=>s.TypeIs o T /\ R (.ok (.ret .none)) s))
  (h:S A.in1 (wants (fun o s1=>s1.TypeIs o T /\ Q o s1) E) s):wpAny (model prog w) A (call (.type T) us kw) Q E s:=by
 obtain ⟨hc,tl,hm⟩:=ft.mro
 have k1:=ft.made
 have k2:=ft.sub
 have k3:=ft.notType
 have k4:=ft.canCreate
 refine wpAny_call (codeAny_of_tree (show wpAny _ _ (callAny (.type T) _) _ _ _ from wpAny_pure ⟨Code.quiet_builtin _ (by decide +kernel),codeAny_builtin F.entry_type_call ?_⟩))
 rw [Around.under_plain (weight_type_call_type T us kw) (units_type_call_type T us kw)]
 repeat any_goals first | assumption | wp_step
 refine codeAny_mono (codeAny_call_builtin ft.plain en (wpAny_of_eq c2 (g prog w A.in1 _ s h))) fun r s1 hr=>?_
 cases r with
 | error e=>exact hr
 | ok fl=>
   cases fl with
   | ret o=>
     obtain ⟨hT,hq⟩:=hr
     have k5:=ft.init.lookup
     have k6:=ft.init.bind o
     repeat any_goals first | assumption | wp_step
     refine codeAny_mono (codeAny_call_builtin ft.init.plain F.entry_object_init (ft.init.check _ _ _ _ _ _ _ _ hT (c3 o) (gi o prog w A.in1 (wants (fun r s2=>r=.none /\ Q o s2) E) s1 ⟨hT,rfl,hq⟩))) fun r2 s2 K4=>?_
     cases r2 with
     | error e=>exact K4
     | ok f2=>
       cases f2 with
       | ret r=>
         obtain ⟨rfl,q2⟩:=K4
         repeat any_goals first | assumption | wp_step
       | _=>exact K4.elim
   | _=>exact hr.elim
end
theorem initK {T nw:String} {o:Value} {us:List Value} {kw:List (Str×Value)} (hl:typeLookup (.type T) "__init__"=pure (some (.builtin "object.__init__"))) (hm:Bind.madeBy (.type T)=pure (some nw)) (iU:(some nw != some "object.__new__")=true) (u:Value):
  Meets (Builtin.«object.__init__» ⟨o :: u :: us,kw⟩) (fun _ R s=>s.TypeIs o T /\ R (.ok (.ret .none)) s):=by
 refine Meets.of_wp fun prog w A R s hs=>?_
 obtain ⟨hT,hq⟩:=hs
 repeat any_goals first | assumption | wp_step
 exact ⟨_,rfl,hq⟩
theorem Wv (a b:Value):checkTypeCall "enumerate" ⟨[a],[("start",b)]⟩=pure ():=by kernel_rfl
theorem Ww (a b:Value):checkBuiltinCall "enumerate.__new__" ⟨[.type "enumerate",a],[("start",b)]⟩=pure ():=by kernel_rfl
theorem Wx (o a b:Value):argsOk "object.__init__" ⟨[o,a],[("start",b)]⟩:=by kernel_rfl
set_option maxHeartbeats 1000000 in
set_option tactic.hygienic true in
theorem Pm (l:Addr) (items:Array Value) (n:Nat) (mj:Option Addr) (sl:Array (Option Value)) (t:Tok):
  Meets (Builtin.«enumerate.__new__» ⟨[.type "enumerate",.ref l],[("start",.int 1 t)]⟩) (fun _ R s=>s.heap.get? l=some { cls:=.type "tuple",dict:=mj,data:=.seq items n,slots:=sl } /\
   R (.ok (.ret (.ref (s.heap.push { cls:=.type "tuple_iterator",data:=.fields #[.ref l,.int 0 0] }).objs.size)))
     { s with heap:=(s.heap.push { cls:=.type "tuple_iterator",data:=.fields #[.ref l,.int 0 0] }).push { cls:=.type "enumerate",data:=.fields #[.none,.bool false,.ref s.heap.objs.size,rawInt 1,.none,.none] } }):=
 .of_wp fun prog w A R s h=>by
  obtain ⟨hp,g,d,tk,os⟩:=s; obtain ⟨hl,h⟩:=h
  have uD:=sub_enumerate
  have hL:Heap.IsTuple (Shared.heap ⟨hp,g,d,tk,os⟩) l items:=⟨_,hl,rfl,n,rfl⟩
  wp_walk using AutoSeq1.wpAny_loadPart' hl
  refine wpAny_stack_any fun st=>wpAny_pure ?_
  split
  ·rename_i c _ _ _ _ _
   cases (c == Value.type "enumerate")
   ·wp_walk using AutoSeq1.wpAny_loadPart' hl,wpAny_pyIter_tuple hL
    exact ⟨_,rfl,h⟩
   ·wp_walk using AutoSeq1.wpAny_loadPart' hl,wpAny_pyIter_tuple hL
    exact ⟨_,rfl,h⟩
  ·wp_walk using AutoSeq1.wpAny_loadPart' hl,wpAny_pyIter_tuple hL
   exact ⟨_,rfl,h⟩
section
variable {prog:Program} {w:World} {A:Around} {E:Value->Shared->Prop} {s:Shared}
theorem xg {l:Addr} {items:Array Value} {t:Tok} {Q:Value->Shared->Prop} (hL:s.heap.IsTuple l items)
  (h:∀ h',IsEnum h' (s.heap.objs.size + 1) s.heap.objs.size 1 .none->h'.IsTupleIter s.heap.objs.size l 0->h'.objs.size=s.heap.objs.size + 2->(∀ b o,s.heap.get? b=some o->h'.get? b=some o)->Q (.ref (s.heap.objs.size + 1)) { s with heap:=h' }):
  wpAny (model prog w) A (call (.type "enumerate") [.ref l] [("start",.int 1 t)]) Q E s:=by
 obtain ⟨⟨c,mj,dt,sl⟩,hl,hc,n,hd⟩:=hL
 simp only at hc hd
 subst hc hd
 refine Pk PySem.F.called_enumerate (Wv _ _) (Ww _ _) PySem.F.entry_enumerate_new (Pm l items n mj sl t) (fun o=>Wx o _ _) (fun o=>initK PySem.F.called_enumerate.init.lookup PySem.F.called_enumerate.made (by decide) _) ⟨hl,?_⟩
 have hz:(s.heap.push { cls:=.type "tuple_iterator",data:=.fields #[.ref l,.int 0 0] }).objs.size=s.heap.objs.size + 1:=Heap.size_push ..
 show _ /\ _
 rw [hz]
 have he:IsEnum ((s.heap.push { cls:=.type "tuple_iterator",data:=.fields #[.ref l,.int 0 0] }).push { cls:=.type "enumerate",data:=.fields #[.none,.bool false,.ref s.heap.objs.size,rawInt 1,.none,.none] }) (s.heap.objs.size + 1) s.heap.objs.size 1 .none:=by
  have q:=Heap.get?_push_size (s.heap.push { cls:=.type "tuple_iterator",data:=.fields #[.ref l,.int 0 0] }) (o:={ cls:=.type "enumerate",data:=.fields #[.none,.bool false,.ref s.heap.objs.size,rawInt 1,.none,.none] }) rfl
  rw [hz] at q; exact q
 exact ⟨⟨_,he,rfl⟩,h _ he ⟨_,Heap.get?_push_of_some _ (Heap.get?_push_size _ rfl),rfl,rfl⟩ (by rw [Heap.size_push,hz]) fun b o x=>Heap.get?_push_of_some _ (Heap.get?_push_of_some _ x)⟩
theorem uO {it:Addr} {fp:List Addr} {n:Nat} {P:Nat->Value->Prop} {St:Nat->Heap->Prop} (d:Draws prog w A it fp n P St):Draws prog w A it fp (n + 1) (fun i v=>∃ j,i=j + 1 /\ P j v) (fun i h=>∃ j,i=j + 1 /\ St j h) where
 live:=fun _ h ⟨j,_,q⟩=>d.live j h q
 frame:=fun _ h h' ⟨j,e,q⟩ k=>⟨j,e,d.frame j h h' q k⟩
 item:=fun i s Q E hi ⟨j,e,q⟩ hQ=>d.item j s Q E (by omega) q fun x h' tk p st sb=>hQ x h' tk ⟨j,e,p⟩ ⟨j + 1,by omega,st⟩ sb
 done:=fun s Q E ⟨j,e,q⟩ hE=>d.done s Q E ((show j=n by omega) ▸ q) hE
theorem pk {M:Model} {env:Env} {pos:Pos} {T:String} {e:Expr} {es:List Expr} {ID:List Keyword} {Q:Value->Shared->Prop}
  (h:wpAny M A (spliced (backTo pos (starEach (e :: es) env))) (fun vs s1=>wpAny M A (evalAll ((backToKw pos (keywordEach ID env)).map (·.2))) (fun ks s2=>wpAny M A (call (.type T) vs (((backToKw pos (keywordEach ID env)).filterMap (·.1)).zip ks)) Q E s2) E s1) E s)
  (he:backTo pos (starEach (e :: es) env)=(false,eval e env) :: backTo pos (starEach es env)) (hp:(backTo pos (starEach (e :: es) env)).any (·.1)=false) (ha:(backToKw pos (keywordEach ID env)).all (·.1.isSome)=true) (hk:(backToKw pos (keywordEach ID env)).any (·.1.isNone)=false):
  wpAny M A (callWith pos (.type T) [] (backTo pos (starEach (e :: es) env)) (backToKw pos (keywordEach ID env))) Q E s:=by
 have h1:wpAny M A (evalArgs (.type T) true (backTo pos (starEach (e :: es) env)) (backToKw pos (keywordEach ID env))) (fun a s1=>wpAny M A (call (.type T) a.pos a.kw) Q E s1) E s:=by
  rw [he] at h ⊢
  exact evalArgs_kwB ha h
 unfold callWith
 refine wpAny_bind (wpAny_holding (wpAny_mono h1 (fun a s1 q=>wpAny_bind (wpAny_standAt ?_)) fun _ _ x=>x))
 simp only [hp,hk,Bool.or_false]
 exact wpAny_bind (wpAny_pure (wpAny_bind (wpAny_mono q (fun r s2 hr=>wpAny_bind (wpAny_holding (wpAny_point (wpAny_pure hr)))) fun _ _ x=>x)))
end
end LS
namespace L2
open PySem PySem.Spec PyProof.Rows LS
def MK (K:PySem.W.Frag) (a:Addr):It:=
 ⟨fun i H=>∃ xs x,jk K H a xs /\ xs[i]?=some x,fun i H x H'=>∃ p v,H p=none /\ x=.ref p /\ H'=upd H p (.tup [.int ((i:Int) + 1),v]) /\ ∀ xs,jk K H a xs->xs[i]?=some v,fun i H=>∃ xs,jk K H a xs /\ xs.length=i⟩
theorem xh {P:Program} {w:World} {K:PySem.W.Frag} {es:List Expr} {kk} {ig:Pos} (a e it:Addr) (iU:e≠it):Turn P w K (.Tuple es kk ig) (MK K a) [e,it] e (fun i h=>(∃ old,IsEnum h e it ((i:Int) + 1) old) /\ h.IsTupleIter it a i) where
 mem:=by simp
 obj:=fun i h st b hb=>by
  obtain ⟨⟨old,he⟩,o,ho,c,d⟩:=st
  rcases List.mem_cons.mp hb with z | z
  ·subst z; exact ⟨_,he,fun v z=>by cases z⟩
  ·have z:b=it:=by simpa using z
   subst z; exact ⟨o,ho,fun v z=>by rw [d] at z; cases z⟩
 keep:=fun i h h' st k=>by
  obtain ⟨⟨old,he⟩,gz⟩:=st
  exact ⟨⟨old,k e (by simp) _ he⟩,gz.at fun o eo=>k it (by simp) o eo⟩
 item:=by
  intro X hP hw hK hc i pins s σ H E I hf st hg
  subst hP hw hK
  obtain ⟨xs,x,hq,hx⟩:=hg
  obtain ⟨its,rv,p,hz⟩:=I.tuple hq
  obtain ⟨u,hu,ru⟩:=rv.get hx
  obtain ⟨⟨old,he⟩,gz⟩:=st
  have hp:s.heap.IsTuple a its.toArray:=p
  have Pf:e≠a:=fun z=>by
   obtain ⟨o,ho,mz,_⟩:=hp
   rw [<- z] at ho
   have:=ho.symm.trans he
   cases this
   exact absurd (Value.type.inj mz) (by decide)
  have JE:a≠it:=fun z=>by
   obtain ⟨o,ho,mz,_⟩:=hp
   obtain ⟨o2,iw,pf,_⟩:=gz
   rw [z] at ho
   have:=ho.symm.trans iw
   cases this
   rw [mz] at pf
   exact absurd (Value.type.inj pf) (by decide)
  have FE:i < its.toArray.size:=by
   have:=(List.getElem?_eq_some_iff.mp hu).1
   simpa using this
  refine wpAny_pyNext_enum_itemD (i:=i + 1) (LS.uO (g7 (A:=X.A.in1) (I.ok.hd hc) it a JE its.toArray)) (by push_cast; exact he) ⟨i,rfl,gz,hp⟩ (Nat.succ_lt_succ FE) iU (by simp [iU,Pf]) fun y h1 tk hy zP CF KW Fv wa=>?_
  obtain ⟨j,ej,hy⟩:=hy
  obtain ⟨j',Wy,CF⟩:=CF
  cases ej
  cases Wy
  push_cast at zP KW
  have Pg:y=u:=by
   have h3:its.toArray[i]?=some u:=by simpa using hu
   have h4:its.toArray[i]?=some y:=hy
   rw [h3] at h4; cases h4; rfl
  subst Pg
  refine ⟨_,rfl,wpAny_letOwnedTupleGo_enum zP fun h2 Cm kb=>?_⟩
  replace kb:Heap.SameBut e h1 h2:=kb
  have HE:e < s.heap.objs.size:=Heap.lt_size he
  have I1:Inv X pins σ H { s with heap:=h2,toks:=tk + 1 }:=I.g6 (t':=tk + 1) (ch:=[e,it]) (fun b o hb eo=>by
   simp only [List.mem_cons,List.not_mem_nil,or_false,not_or] at hb
   exact (kb.2 b hb.1).trans (wa b o hb.1 hb.2 eo)) hf
  have Jo:IsTup h2 s.heap.objs.size [Value.int ((i:Int) + 1) tk,y].toArray:=⟨_,(kb.2 _ (Nat.ne_of_gt HE)).trans KW,rfl,_,rfl⟩
  have jV:H s.heap.objs.size=none:=I.bE.fresh (Nat.le_refl _)
  have fo:=I.mr (H':=H) (Nat.le_refl _) jV
  have I2:Inv X pins σ (upd H s.heap.objs.size (.tup [.int ((i:Int) + 1),x])) { s with heap:=h2,toks:=tk + 1 }:=I1.si jV (Nat.le_trans I.sz (Nat.le_refl _)) fo.2.1 fo.2.2.2.2.1 fo.2.2.2.2.2 Jo (.cons ⟨_,rfl⟩ (.cons ru .nil)) (by show 2<=sizeLine; decide)
  refine ⟨.ref s.heap.objs.size,_,I2,rfl,⟨_,x,jV,rfl,rfl,fun ys hy=>by rw [I.mo hy hq]; exact hx⟩,⟨⟨y,by push_cast; exact Cm⟩,CF.1.extBut kb.extBut (Ne.symm iU)⟩,fun b hb=>?_⟩
  have g5:b < s.heap.objs.size:=by
   rcases List.mem_cons.mp hb with z | z
   ·subst z; exact HE
   ·have z:b=it:=by simpa using z
    subst z
    obtain ⟨o,ho,_⟩:=gz
    exact Heap.lt_size ho
  rw [aI (Nat.ne_of_lt g5)]
  exact (hf b hb).1
 done:=by
  intro X hP hw hK hc i pins s σ H E I hf st hg
  subst hP hw hK
  obtain ⟨xs,hq,hx⟩:=hg
  obtain ⟨its,rv,p,hz⟩:=I.tuple hq
  obtain ⟨⟨old,he⟩,gz⟩:=st
  have hp:s.heap.IsTuple a its.toArray:=p
  have JE:a≠it:=fun z=>by
   obtain ⟨o,ho,mz,_⟩:=hp
   obtain ⟨o2,iw,pf,_⟩:=gz
   rw [z] at ho
   have:=ho.symm.trans iw
   cases this
   rw [mz] at pf
   exact absurd (Value.type.inj pf) (by decide)
  have hl:=rv.length
  have hsz:its.toArray.size=i:=by rw [List.size_toArray,<- hl]; exact hx
  refine wpAny_pyNext_enum_endD (LS.uO (g7 (A:=X.A.in1) (I.ok.hd hc) it a JE its.toArray)) he ⟨_,rfl,by rw [hsz]; exact gz,hp⟩ fun h1 eb=>⟨rfl,?_⟩
  exact I.g6 (t':=s.toks) (ch:=[e,it]) (fun b o hb eo=>eb b o (fun z=>hb (by simp [z])) eo) hf
 self:=fun _ _ _ _ _ st h=>by
  obtain ⟨⟨old,he⟩,_⟩:=st
  exact wpAny_pyIter_enum he h
section
variable {X:Cx} {O:List Nat} {a:Expr} {ge:DS->Option D} {p pos:Pos} {es:List Expr} {kk} {ig:Pos}
def JI (K:PySem.W.Frag) (ta:TA):TI:=fun σ H R=>ta σ H fun vs H1=>∃ a xs,vs=[.ref a] /\ jk K H1 a xs /\ R (MK K a) H1
theorem CI {ta:TA} {jj} {cp kp:Pos} (hg:Gl X "enumerate") (hm:X.mg "enumerate"=none) (ha:PA X [a] ta) (hs:starEach [a] X.env=[(false,eval a X.env)]:=by rfl):PI X (.Tuple es kk ig) (.Call (.Name "enumerate" p) [a] [⟨some "start",.Constant (.int 1) jj cp,kp⟩] pos) (JI X.K ta):=by
 intro pins s σ H R I h
 refine wpAny_Call_Name_kw (ic I hg hm iX (LS.pk (dh (ha pos pins s σ H _ I h) fun us s1 ⟨vs,H1,I1,r1,q1⟩=>?_) (by rw [hs]; rfl) (by rw [hs]; rfl) rfl rfl))
 obtain ⟨b,xs,e,hq,q⟩:=q1
 subst e
 obtain ⟨u,rfl,ru⟩:=vals1 r1
 cases ru
 refine PyProof.Rows.evalAll_cons (wpAny_bind (dh (aj pins s1 σ H1 (fun v H2=>v=V.int 1 /\ H2=H1) I1 ⟨rfl,rfl⟩) fun kv s2 ⟨v,H2,I2,K5,e1,e2⟩=>wpAny_bind (wpAny_standAt (wpAny_pure (PyProof.Rows.evalAll_nil ?_)))))
 subst e1 e2
 obtain ⟨t,rfl⟩:=K5
 obtain ⟨its,rv,pl,hz⟩:=I2.tuple hq
 refine LS.xg (show s2.heap.IsTuple b its.toArray from pl) fun h' he hit hsz hk=>?_
 refine wpAny_pyIter_enum he ?_
 refine ⟨s2.heap.objs.size + 1,[s2.heap.objs.size + 1,s2.heap.objs.size],_,_,H2,rfl,I2.kept (t':=s2.toks) hk,xh b _ s2.heap.objs.size (Nat.succ_ne_self _),⟨⟨_,he⟩,hit⟩,fun b hb=>?_,q⟩
 have hle:s2.heap.objs.size<=b:=by
  simp only [List.mem_cons,List.not_mem_nil,or_false] at hb
  rcases hb with z | z
  ·rw [z]; exact Nat.le_succ _
  ·rw [z]; exact Nat.le_refl _
 exact I2.mr hle (I2.bE.fresh hle)
def nu (l:List D):List D:=(l.zipIdx 1).map fun p=>.tuple [.int (p.2:Nat),p.1]
theorem AA (l:List D):(nu l).length=l.length:=by unfold nu; simp
theorem AB {l:List D} {i:Nat} {d:D} (h:(nu l)[i]?=some d):∃ x,l[i]?=some x /\ d=.tuple [.int ((i:Int) + 1),x]:=by
 unfold nu at h
 rw [List.getElem?_map,List.getElem?_zipIdx] at h
 cases e:l[i]? with
 | none=>rw [e] at h; cases h
 | some x=>
   rw [e] at h
   simp only [Option.map_some,Option.some.injEq] at h
   refine ⟨x,rfl,?_⟩
   rw [<- h]
   push_cast
   rw [Int.add_comm]
def CJ (g:DS->Option D):DS->Option (List D):=fun δ=>(g δ).bind fun | .tuple l=>some (nu l) | _=>none
theorem CK {jj} {cp kp:Pos} (hm:X.mg "enumerate"=none) (ha:PE X a (tE X.K O ge)) (hg:Gl X "enumerate":=by rfl) (hs:starEach [a] X.env=[(false,eval a X.env)]:=by rfl) (Mp:starEach ([]:List Expr) X.env=[]:=by rfl):PI X (.Tuple es kk ig) (.Call (.Name "enumerate" p) [a] [⟨some "start",.Constant (.int 1) jj cp,kp⟩] pos) (tI X.K O (CJ ge)):=
 (CI hg hm (bU ha df (by rw [hs,Mp])) hs).mono fun σ H Q hh=>hh.e fun U A0 δ ds R ed q=>by
  obtain ⟨x,e1,e2⟩:=bind1 ed
  cases x with
  | tuple l=>
    cases e2
    refine ⟨U,A0,δ,_,R,e1,fun v H' s h=>?_⟩
    cases h with
    | tup hq h=>
      refine ⟨_,_,rfl,.inl (bH.lF hq),q _ H' s ?_⟩
      intro A' i H2 s2 al
      have h2:=h.same s2
      have hL:jk X.K H2 _ _:=.inl (bH.lF (s2.lF hq))
      refine ⟨fun d hd=>?_,fun hi=>⟨_,hL,by rw [hi,AA,h2.len]⟩⟩
      obtain ⟨y,hy,rfl⟩:=AB hd
      obtain ⟨v,hv,Mq⟩:=h2.get hy
      refine ⟨⟨_,v,hL,hv⟩,fun z H3 hz=>?_⟩
      obtain ⟨p,v',hp,rfl,rfl,Mr⟩:=hz
      have:=Mr _ hL
      rw [hv] at this
      cases this
      exact ⟨bI hp _,HD.r8 al hp (.cons (.int _) (.cons Mq .nil))⟩
  | _=>cases e2
end
def U4 (K:PySem.W.Frag) (a b:Addr):It:=
 ⟨fun i H=>∃ xs ys x y,fY K H a xs /\ fY K H b ys /\ xs[i]?=some x /\ ys[i]?=some y,fun i H v H'=>∃ p x y,H p=none /\ v=.ref p /\ H'=upd H p (.tup [x,y]) /\ (∀ xs,fY K H a xs->xs[i]?=some x) /\ ∀ ys,fY K H b ys->ys[i]?=some y,fun i H=>∃ xs ys,fY K H a xs /\ fY K H b ys /\ min xs.length ys.length=i⟩
theorem CL {P:Program} {w:World} {K:PySem.W.Frag} {es:List Expr} {kk} {ig:Pos} (l1 l2 z TI TO i1 i2:Addr) (D:ZipApart z TI TO i1 i2 l1 l2):Turn P w K (.Tuple es kk ig) (U4 K l1 l2) [z,TI,TO,i1,i2] z (fun i h=>IsZip h z TI TO .none /\ IsPair h TI (.ref i1) (.ref i2) /\ (∃ a b,IsPair h TO a b) /\ h.IsListIter i1 l1 i /\ h.IsListIter i2 l2 i) where
 mem:=by simp
 obj:=fun i h st b hb=>by
  obtain ⟨h1,h2,⟨a,c,h3⟩,⟨o4,h4,_,d4⟩,o5,h5,_,d5⟩:=st
  simp only [List.mem_cons,List.not_mem_nil,or_false] at hb
  rcases hb with rfl | rfl | rfl | rfl | rfl
  ·exact ⟨_,h1,fun v z=>by cases z⟩
  ·exact ⟨_,h2,fun v z=>by cases z⟩
  ·exact ⟨_,h3,fun v z=>by cases z⟩
  ·exact ⟨o4,h4,fun v z=>by rw [d4] at z; cases z⟩
  ·exact ⟨o5,h5,fun v z=>by rw [d5] at z; cases z⟩
 keep:=fun i h h' st k=>by
  obtain ⟨h1,h2,⟨a,c,h3⟩,h4,h5⟩:=st
  exact ⟨k z (by simp) _ h1,k TI (by simp) _ h2,⟨a,c,k TO (by simp) _ h3⟩,h4.at fun o e=>k i1 (by simp) o e,h5.at fun o e=>k i2 (by simp) o e⟩
 item:=by
  intro X hP hw hK hc i pins s σ H E I hf st hg
  subst hP hw hK
  obtain ⟨xs,ys,x,y,FG,wQ,hx,hy⟩:=hg
  obtain ⟨t1,NT,p1,Fv⟩:=I.list FG
  obtain ⟨t2,K5,p2,Pn⟩:=I.list wQ
  obtain ⟨u1,U5,Wz⟩:=NT.get hx
  obtain ⟨u2,U6,WA⟩:=K5.get hy
  obtain ⟨s1,s2,s3,s4,s5⟩:=st
  have W:=WalksT.zip2 (prog:=X.prog) (w:=X.w) (A:=X.A) (I.ok.hd hc) z TI TO i1 i2 l1 l2 D t1.toArray t2.toArray
  have hi:i < min t1.toArray.size t2.toArray.size:=by
   have a:=(List.getElem?_eq_some_iff.mp U5).1
   have b:=(List.getElem?_eq_some_iff.mp U6).1
   simp only [List.size_toArray]; omega
  refine W.item i s _ E hi ⟨s1,s2,s3,s4,s5,p1.isList,p2.isList⟩ fun T vals h1 tk hv hT ht hm hk=>⟨_,rfl,W.go _ _ _ i T _ _ _ hm fun h2 gz yM=>?_⟩
  obtain ⟨x',y',e1,e2,rfl⟩:=hv
  have Ab:x'=u1:=by
   have:t1.toArray[i]?=some u1:=by simpa using U5
   rw [this] at e1; cases e1; rfl
  have Bm:y'=u2:=by
   have:t2.toArray[i]?=some u2:=by simpa using U6
   rw [this] at e2; cases e2; rfl
  subst Ab Bm
  have WB:=W.apart i T h1 hm
  have I1:Inv X pins σ H { s with heap:=h2,toks:=tk }:=I.g6 (t':=tk) (ch:=[z,TI,TO,i1,i2]) (fun b o hb eo=>by
   have FH:b∉[z,TO,i1,i2]:=fun q=>hb (by simp only [List.mem_cons,List.not_mem_nil,or_false] at q ⊢; rcases q with q | q | q | q <;> simp [q])
   exact yM b o FH (hk b o FH eo)) hf
  have Jo:IsTup h2 T [x',y'].toArray:=by
   obtain ⟨o,ho,c,n,d⟩:=ht
   exact ⟨o,yM T o WB ho,c,n,d⟩
  have jV:H T=none:=I.bE.fresh hT
  have fo:=I.mr (H':=H) hT jV
  have I2:Inv X pins σ (upd H T (.tup [x,y])) { s with heap:=h2,toks:=tk }:=I1.si jV (Nat.le_trans I.sz hT) fo.2.1 fo.2.2.2.2.1 fo.2.2.2.2.2 Jo (.cons Wz (.cons WA .nil)) (by show 2<=sizeLine; decide)
  obtain ⟨r1,r2,r3,r4,r5,_,_⟩:=gz
  refine ⟨.ref T,_,I2,rfl,⟨T,x,y,jV,rfl,rfl,fun zs hz=>by rw [I.lz hz FG]; exact hx,fun zs hz=>by rw [I.lz hz wQ]; exact hy⟩,⟨r1,r2,r3,r4,r5⟩,fun b hb=>?_⟩
  have g5:b < s.heap.objs.size:=by
   obtain ⟨a,c,s3⟩:=s3
   obtain ⟨o4,s4,_⟩:=s4
   obtain ⟨o5,s5,_⟩:=s5
   simp only [List.mem_cons,List.not_mem_nil,or_false] at hb
   rcases hb with q | q | q | q | q
   ·rw [q]; exact Heap.lt_size s1
   ·rw [q]; exact Heap.lt_size s2
   ·rw [q]; exact Heap.lt_size s3
   ·rw [q]; exact Heap.lt_size s4
   ·rw [q]; exact Heap.lt_size s5
  rw [aI (Nat.ne_of_lt (Nat.lt_of_lt_of_le g5 hT))]
  exact (hf b hb).1
 done:=by
  intro X hP hw hK hc i pins s σ H E I hf st hg
  subst hP hw hK
  obtain ⟨xs,ys,FG,wQ,hx⟩:=hg
  obtain ⟨t1,NT,p1,Fv⟩:=I.list FG
  obtain ⟨t2,K5,p2,Pn⟩:=I.list wQ
  obtain ⟨s1,s2,s3,s4,s5⟩:=st
  have W:=WalksT.zip2 (prog:=X.prog) (w:=X.w) (A:=X.A) (I.ok.hd hc) z TI TO i1 i2 l1 l2 D t1.toArray t2.toArray
  have a1:=NT.length
  have a2:=K5.length
  have hi:min t1.toArray.size t2.toArray.size=i:=by simp only [List.size_toArray]; omega
  refine W.done s _ E (by rw [hi]; exact ⟨s1,s2,s3,s4,s5,p1.isList,p2.isList⟩) fun h1 tk hk=>⟨rfl,?_⟩
  exact I.g6 (t':=tk) (ch:=[z,TI,TO,i1,i2]) (fun b o hb eo=>hk b o (fun q=>hb (by simp only [List.mem_cons,List.not_mem_nil,or_false] at q ⊢; rcases q with q | q | q | q <;> simp [q])) eo) hf
 self:=fun _ _ _ _ _ st h=>wpAny_pyIter_zip st.1 h
theorem JJ:bootBuiltins "zip"=some (.type "zip"):=by decide +kernel
section
variable {X:Cx} {O:List Nat} {a b:Expr} {ga gb:DS->Option D} {p pos:Pos} {es:List Expr} {kk} {ig:Pos}
def Po (K:PySem.W.Frag) (ta:TA):TI:=fun σ H R=>ta σ H fun vs H1=>∃ a b xs ys,vs=[.ref a,.ref b] /\ fY K H1 a xs /\ fY K H1 b ys /\ R (U4 K a b) H1
theorem JK {ta:TA} (hg:Gl X "zip") (hm:X.mg "zip"=none) (ha:PA X [a,b] ta) (hs:starEach [a,b] X.env=(false,eval a X.env) :: starEach [b] X.env:=by rfl) (kb:(backTo pos (starEach [b] X.env)).any (·.1)=false:=by rfl):PI X (.Tuple es kk ig) (.Call (.Name "zip" p) [a,b] [] pos) (Po X.K ta):=by
 intro pins s σ H R I h
 refine wpAny_Call_Name_kw (ic I hg hm JJ (PyProof.Rows.callWith_type1 (dh (ha pos pins s σ H _ I h) fun us s1 ⟨vs,H1,I1,r1,q1⟩=>?_) hs kb))
 obtain ⟨l1,l2,xs,ys,e,FG,wQ,q⟩:=q1
 subst e
 cases r1 with
 | cons r1 t1=>
   cases t1 with
   | cons r2 t2=>
     cases t2
     cases r1
     cases r2
     obtain ⟨t1,NT,p1,Fv⟩:=I1.list FG
     obtain ⟨t2,K5,p2,Pn⟩:=I1.list wQ
     have WC:l1 < s1.heap.objs.size:=by obtain ⟨o,ho,_⟩:=p1.isList; exact Heap.lt_size ho
     have WD:l2 < s1.heap.objs.size:=by obtain ⟨o,ho,_⟩:=p2.isList; exact Heap.lt_size ho
     refine call_zip_2 p1.isList p2.isList fun h' hz WE WG WH Pp hsz hk=>wpAny_pyIter_zip hz ?_
     refine ⟨s1.heap.objs.size + 4,[s1.heap.objs.size + 4,s1.heap.objs.size + 2,s1.heap.objs.size + 3,s1.heap.objs.size,s1.heap.objs.size + 1],_,_,H1,rfl,I1.kept (t':=s1.toks) hk,CL l1 l2 _ _ _ _ _ (zipApart_new WC WD),⟨hz,WE,⟨_,_,WG⟩,WH,Pp⟩,fun b hb=>?_,q⟩
     have hle:s1.heap.objs.size<=b:=by
      simp only [List.mem_cons,List.not_mem_nil,or_false] at hb
      rcases hb with z | z | z | z | z
      ·rw [z]; exact Nat.le_add_right _ _
      ·rw [z]; exact Nat.le_add_right _ _
      ·rw [z]; exact Nat.le_add_right _ _
      ·rw [z]; exact Nat.le_refl _
      ·rw [z]; exact Nat.le_add_right _ _
     exact I1.mr hle (I1.bE.fresh hle)
def CM (x y:List D):List D:=List.zipWith (fun a b=>.tuple [a,b]) x y
def FI (ga gb:DS->Option D):DS->Option (List D):=fun δ=>(ga δ).bind fun x=>(gb δ).bind fun y=>match x,y with
 | .list x,.list y=>some (CM x y)
 | _,_=>none
theorem JL (hm:X.mg "zip"=none) (ha:PE X a (tE X.K O ga)) (hb:PE X b (tE X.K O gb)) (hg:Gl X "zip":=by rfl) (hs:starEach [a,b] X.env=(false,eval a X.env) :: starEach [b] X.env:=by rfl) (Ct:starEach [b] X.env=(false,eval b X.env) :: starEach [] X.env:=by rfl) (kb:(backTo pos (starEach [b] X.env)).any (·.1)=false:=by rfl):PI X (.Tuple es kk ig) (.Call (.Name "zip" p) [a,b] [] pos) (tI X.K O (FI ga gb)):=
 (JK hg hm (bU ha (bU hb df Ct) hs) hs kb).mono fun σ H Q hh=>hh.e fun U A0 δ ds R ed q=>by
  obtain ⟨x,e1,e2⟩:=bind1 ed
  obtain ⟨y,e3,e4⟩:=bind1 e2
  refine ⟨U,A0,δ,x,R,e1,fun v H1 s1 h1=>⟨U,A0,δ,y,R.same s1,e3,fun v2 H2 s2 h2=>?_⟩⟩
  cases x with
  | list x=>
    cases y with
    | list y=>
      cases e4
      have Mi:=h1.same (cq (A:=U ++ A0) s2)
      cases Mi with
      | lst FG d1=>
        cases h2 with
        | lst wQ d2=>
          refine ⟨_,_,_,_,rfl,(FG.same bH).sq,(wQ.same bH).sq,q _ H2 (s1.trans s2) ?_⟩
          intro A' i H3 s3 al
          have k1:=d1.same s3
          have k2:=d2.same s3
          have l1:fY X.K H3 _ _:=((FG.same s3).same bH).sq
          have l2:fY X.K H3 _ _:=((wQ.same s3).same bH).sq
          refine ⟨fun d hd=>?_,fun hi=>⟨_,_,l1,l2,by rw [hi,CM,List.length_zipWith,k1.len,k2.len]⟩⟩
          rw [CM,List.getElem?_zipWith] at hd
          cases ex:x[i]? with
          | none=>rw [ex] at hd; cases hd
          | some dx=>
            cases ey:y[i]? with
            | none=>rw [ex,ey] at hd; cases hd
            | some dy=>
              rw [ex,ey] at hd
              cases hd
              obtain ⟨vx,U7,WI⟩:=k1.get ex
              obtain ⟨vy,U8,WJ⟩:=k2.get ey
              refine ⟨⟨_,_,vx,vy,l1,l2,U7,U8⟩,fun z H4 hz=>?_⟩
              obtain ⟨p,x',y',hp,rfl,rfl,f1,f2⟩:=hz
              have g1:=f1 _ l1
              have g2:=f2 _ l2
              rw [U7] at g1; rw [U8] at g2
              cases g1; cases g2
              exact ⟨bI hp _,HD.r8 al hp (.cons WI (.cons WJ .nil))⟩
    | _=>cases e4
  | _=>cases e4
end
end L2
namespace L2
open PySem PySem.Spec PyProof.Rows
section
variable {X:Cx} {O:List Nat} {e:Expr}
theorem ML {p:Addr} {xs:List V} {ds:List D} (h:PE X e (tC (.ref p))) (m:(p,xs)∈bY) (hd:∀ H,cy X.K H xs ds):PE X e (tE X.K O (gC (.tuple ds))):=h.mono fun σ H Q hh=>hh.e fun U A0 δ d R ed q=>by
 cases ed
 exact q (.ref p) H (az.refl H) (.tup (Fl (R.al.2 p xs m) R.al) (hd _))
end
theorem CN:∀ {l:List (Addr×List V)} {p:Addr} {xs:List V},l.lookup p=some xs->(p,xs)∈l
 | [],_,_,h=>by cases h
 | (q,ys) :: l,p,xs,h=>by
   rw [List.lookup_cons] at h
   by_cases e:p=q
   ·subst e
    rw [beq_self_eq_true] at h
    cases h
    exact List.mem_cons_self
   ·rw [show (p == q)=false by simpa using e] at h
    exact List.mem_cons_of_mem _ (CN h)
def bz (K0:PySem.W.Frag):PySem.W.Frag:=K0.filter fun q=>(bY.lookup q.1).isNone
theorem gL (b:Addr):∀ K0:PySem.W.Frag,(bz K0).lookup b=if (bY.lookup b).isNone=true then K0.lookup b else none
 | []=>by simp [bz]
 | (c,o) :: r=>by
   have ih:=gL b r
   unfold bz at ih ⊢
   rw [List.filter_cons]
   by_cases e:b=c
   ·subst e
    by_cases q:(bY.lookup b).isNone=true
    ·rw [if_pos q,if_pos q,List.lookup_cons,List.lookup_cons]; simp
    ·rw [if_neg q,if_neg q]; rw [if_neg q] at ih; exact ih
   ·have e':(b == c)=false:=by simpa using e
    rw [List.lookup_cons,e']
    by_cases q:(bY.lookup c).isNone=true
    ·rw [if_pos q,List.lookup_cons,e']; exact ih
    ·rw [if_neg q]; exact ih
structure lR (K0:PySem.W.Frag):Prop where
 one:∀ p xs,(p,xs)∈bY->bY.lookup p=some xs
 tup:∀ p xs,bY.lookup p=some xs->∃ (od:Option Addr) (its:Array Value) (n:Nat) (sl:Array (Option Value)),K0.lookup p=some ⟨.type "tuple",od,.seq its n,sl⟩ /\ xs.length<=sizeLine /\ bf xs its.toList
theorem lR.look {K0:PySem.W.Frag} (C:lR K0) {b:Addr} {o:Obj} (h:K0.lookup b=some o) (n:∀ its n,o.data≠.seq its n):(bz K0).lookup b=some o:=by
 rw [gL]
 cases q:bY.lookup b with
 | none=>exact h
 | some xs=>
   obtain ⟨od,its,k,sl,e,_⟩:=C.tup b xs q
   rw [h] at e; cases e
   exact absurd rfl (n its k)
theorem lR.func {K0:PySem.W.Frag} (C:lR K0) {x qual:Str} {st:Stmt} {f:Addr} {fd:FuncData} (F:ij K0 x qual st f fd):ij (bz K0) x qual st f fd:=by
 obtain ⟨⟨oc,od,kV,doc,pm,an,bR,ct,wB,e1,e2,e3⟩,kp⟩:=F
 have Bm:=C.look e2 (fun its n z=>by cases z)
 refine ⟨⟨oc,od,kV,doc,pm,an,bR,ct,wB,e1,Bm,?_⟩,?_⟩
 ·unfold PySem.W.codeIn at e3 ⊢
  cases bR with
  | ref c=>
    simp only at e3 ⊢
    cases q:K0.lookup c with
    | none=>rw [q] at e3; exact absurd e3 (by simp)
    | some ob=>
      obtain ⟨c1,c2,dt,c4⟩:=ob
      rw [q] at e3
      cases dt with
      | fields vs=>rw [C.look q (fun its n z=>by cases z)]; exact e3
      | _=>exact absurd e3 (by simp)
  | _=>exact e3
 ·unfold PySem.W.keepIn
  simp only [Bm]
def Hc (K0:PySem.W.Frag):Hp:=fun b=>match bY.lookup b with
 | some xs=>(K0.lookup b).map fun ob=>HO.qe ob (.tup xs)
 | none=>none
theorem AD {P:Program} {w:World} {K0:PySem.W.Frag} {mg mb:Str->Option Value} {CX:Bl} {k:Nat} {fa a:Addr} {fd:FuncData} {x:Str} {sp:Sp} {bu:Shared} {vs:List Value} {ns:List Int} (C:lR K0)
  (KX:K0.In bu.heap) (EI:bu.heap.Ns mainGlobals mg) (hb:bu.heap.Ns builtinsNs mb) (WK:∀ x:Str,x≠"__name__"->mb x=bootBuiltins x) (Pq:bu.heap.NoLimit) (hg:bu.gens=#[])
  (ha:bu.heap.get? a=some { cls:=.type "list",data:=.seq vs.toArray }) (hi:IntsAre vs ns) (hl:ns.length<=sizeLine) (hr:dq k callerA)
  (F:∀ base:Heap,(bz K0).In base->base.Ns mainGlobals mg->nI P w (bz K0) mg base CX k fa fd [x] sp) (MM:∀ (s:Shared) (u:Value),BindsTo s fd ⟨[u],[]⟩ [(x,u)])
  (BL:∀ H:Hp,v7 (bz K0) H a (ns.map V.int)->(∀ p xs,(p,xs)∈bY->cx H p xs)->sp [.ref a] H (fun v _=>v=.bl true) fun _ _ _=>False)
  (Pr:∀ H e s',CX [] H bu (fun _ _ _=>False) e s'->False):
  codeAny (model P w) callerA (.call (.ref fa) ⟨[.ref a],[]⟩) (fun r s'=>r=.ok (.ret (.bool true)) /\ OldK bu.heap s'.heap /\ s'.os=bu.os /\ AllBare s'.gens) bu:=by
 have rv:=qS hi
 have Pt:=hi.length
 have core:∀ H:Hp,(∀ b,H b=none \/ ∃ o u,H b=some (.qe o u))->v7 (bz K0) H a (ns.map V.int)->ka P w H bu.heap->(∀ p xs,(p,xs)∈bY->cx H p xs)->(∀ b o es ep,H b≠none->bu.heap.get? b=some o->o.data≠.dict es ep)->(∀ b,H b≠none->(bz K0).lookup b=none)->
   codeAny (model P w) callerA (.call (.ref fa) ⟨[.ref a],[]⟩) (fun r s'=>r=.ok (.ret (.bool true)) /\ OldK bu.heap s'.heap /\ s'.os=bu.os /\ AllBare s'.gens) bu:=by
  intro H hO hS bE hT hD hK
  have y6:∀ {b:Addr} {o:Obj},bu.heap.get? b=some o->H b=none->(rM bu.heap H).get? b=some o:=fun e n=>Bt e n
  have LK:∀ {b:Addr} {o:Obj} {es:Array DictEntry} {ep:Nat},bu.heap.get? b=some o->o.data=.dict es ep->H b=none:=fun {b o es ep} e d=>by
   cases q:H b with
   | none=>rfl
   | some u=>exact absurd d (hD b o es ep (by rw [q]; simp) e)
  have NU:∀ {b:Addr} {m:Str->Option Value},bu.heap.Ns b m->(rM bu.heap H).Ns b m:=fun {b m} ⟨o,es,ep,e,d,r⟩=>⟨o,es,ep,y6 e (LK e d),d,r⟩
  have U9:(bz K0).In (rM bu.heap H):=fun b o e=>by
   have e0:K0.lookup b=some o:=by
    rw [gL] at e
    split at e
    ·exact e
    ·cases e
   refine y6 (KX b o e0) ?_
   cases q:H b with
   | none=>rfl
   | some u=>rw [hK b (by rw [q]; simp)] at e; cases e
  have hM:Mod (bz K0) mg (rM bu.heap H):=⟨U9,NU EI,⟨mb,NU hb,WK⟩,let ⟨mc,h1,h2⟩:=Pq; ⟨mc,NU h1,h2⟩⟩
  have e0:zY P w (bz K0) mg (rM bu.heap H) callerA [] bu H:=⟨rfl,hM,fun b o e=>EO e,Nat.le_of_eq (zQ _ _),trivial,fun b hb=>absurd (show b∈([]:List Addr) from hb) (by simp),bE,.of_eq hg⟩
  refine codeAny_mono ((F _ U9 (NU EI)).run callerA [] bu H ⟨[.ref a],[]⟩ [.ref a] [.ref a] _ _ hr e0 (MM bu (.ref a)) (.cons rfl .nil) (BL H hS hT)) fun r s' h=>?_
  cases r with
  | error e=>exact (Pr H e s' h).elim
  | ok fl=>
    cases fl with
    | next=>exact False.elim h
    | brk=>exact False.elim h
    | cont=>exact False.elim h
    | ret u=>
      obtain ⟨v,H',os,bare,un,Pu,r',q⟩:=h
      have q':v=.bl true:=q
      subst q'
      obtain rfl:u=Value.bool true:=r'
      refine ⟨rfl,OldK.of_keep fun b o e=>?_,os,bare⟩
      cases q:H b with
      | none=>exact un.keep b o e q (by intro z; exact absurd (show b∈([]:List Addr) from z) (by simp)) (by simp)
      | some u=>
        rcases hO b with z | ⟨ob,xs,z⟩
        ·rw [q] at z; cases z
        ·have z2:=un.lu b ob _ z
         obtain ⟨e1,_⟩:=bE b _ z
         obtain ⟨e2,_⟩:=Pu b _ z2
         rw [e] at e1; cases e1
         exact e2
 have NV:∀ b,Hc K0 b=none \/ ∃ ob xs od its n sl,Hc K0 b=some (.qe ob (.tup xs)) /\ bY.lookup b=some xs /\ K0.lookup b=some ob /\ ob=⟨.type "tuple",od,.seq its n,sl⟩ /\ xs.length<=sizeLine /\ bf xs its.toList:=by
  intro b
  unfold Hc
  cases q:bY.lookup b with
  | none=>exact .inl rfl
  | some xs=>
    obtain ⟨od,its,n,sl,e,h1,h2⟩:=C.tup b xs q
    refine .inr ⟨_,xs,od,its,n,sl,?_,rfl,e,rfl,h1,h2⟩
    show (K0.lookup b).map _=_
    rw [e]; rfl
 have Va:∀ (H:Hp) b ob u,Hc K0 b=some (.qe ob u)->cF P w H bu.heap b (.qe ob u):=fun H b ob u e=>by
  rcases NV b with z | ⟨Pw,xs,od,its,n,sl,z,_,z2,rfl,z3,z4⟩
  ·rw [z] at e; cases e
  ·rw [z] at e; cases e
   have FJ:=KX b _ z2
   exact ⟨FJ,z3,its.toList,z4,_,FJ,rfl,n,by simp⟩
 have Vb:∀ p xs,(p,xs)∈bY->∃ ob,Hc K0 p=some (.qe ob (.tup xs)):=fun p xs m=>by
  obtain ⟨od,its,n,sl,e,_⟩:=C.tup p xs (C.one p xs m)
  refine ⟨⟨.type "tuple",od,.seq its n,sl⟩,?_⟩
  unfold Hc
  rw [C.one p xs m]
  show (K0.lookup p).map _=_
  rw [e]; rfl
 have Vc:∀ b o es ep,Hc K0 b≠none->bu.heap.get? b=some o->o.data≠.dict es ep:=fun b o es ep z e d=>by
  rcases NV b with q | ⟨Pw,xs,od,its,n,sl,q,_,z2,rfl,_⟩
  ·exact z q
  ·have FJ:=KX b _ z2
   rw [FJ] at e; cases e; cases d
 have Vd:∀ b,Hc K0 b≠none->(bz K0).lookup b=none:=fun b z=>by
  rcases NV b with q | ⟨Pw,xs,od,its,n,sl,q,q2,_⟩
  ·exact absurd q z
  ·rw [gL,q2]; rfl
 have NW:∀ b,Hc K0 b=none \/ ∃ o u,Hc K0 b=some (.qe o u):=fun b=>by
  rcases NV b with q | ⟨Pw,xs,od,its,n,sl,q,_⟩
  ·exact .inl q
  ·exact .inr ⟨_,_,q⟩
 cases hk:K0.lookup a with
 | some o=>
   have e:=KX a o hk
   rw [ha] at e
   cases e
   have K6:bY.lookup a=none:=by
    cases q:bY.lookup a with
    | none=>rfl
    | some xs=>
      obtain ⟨od,its,n,sl,e,_⟩:=C.tup a xs q
      rw [hk] at e
      exact absurd (congrArg Obj.cls (Option.some.inj e)) (by intro z; exact absurd (Value.type.inj z) (by decide))
   refine core (Hc K0) NW (.inr ⟨vs,_,by rw [gL,K6]; exact hk,by rw [Pt]; exact hl,rv⟩) (fun b u z=>?_) (fun p xs m=>.inr (Vb p xs m)) Vc Vd
   rcases NW b with q | ⟨ob,u',q⟩
   ·rw [q] at z; cases z
   ·rw [q] at z; cases z
    exact Va _ b ob u' q
 | none=>
   have K6:bY.lookup a=none:=by
    cases q:bY.lookup a with
    | none=>rfl
    | some xs=>
      obtain ⟨od,its,n,sl,e,_⟩:=C.tup a xs q
      rw [hk] at e; cases e
   have MN:Hc K0 a=none:=by unfold Hc; rw [K6]
   refine core (fun b=>if b=a then some (.qe { cls:=.type "list",data:=.seq vs.toArray } (.lst (ns.map V.int))) else Hc K0 b) (fun b=>?_) (.inl (.inr ⟨{ cls:=.type "list",data:=.seq vs.toArray },if_pos rfl⟩)) (fun b u z=>?_) (fun p xs m=>?_) (fun b o es ep z e d=>?_) fun b z=>?_
   ·by_cases hb:b=a
    ·exact .inr ⟨_,_,if_pos hb⟩
    ·rcases NW b with q | ⟨ob,u,q⟩
     ·exact .inl ((if_neg hb).trans q)
     ·exact .inr ⟨ob,u,(if_neg hb).trans q⟩
   ·by_cases hb:b=a
    ·have z':=(if_pos hb).symm.trans z
     cases z'
     subst hb
     exact ⟨ha,by rw [List.length_map]; exact hl,vs,_,rv,ha⟩
    ·have z':=(if_neg hb).symm.trans z
     rcases NW b with q | ⟨ob,u',q⟩
     ·rw [q] at z'; cases z'
     ·rw [q] at z'; cases z'
      exact Va _ b ob u' q
   ·obtain ⟨ob,q⟩:=Vb p xs m
    refine .inr ⟨ob,?_⟩
    have hb:p≠a:=fun e=>by rw [e,MN] at q; cases q
    exact (if_neg hb).trans q
   ·by_cases hb:b=a
    ·subst hb
     rw [ha] at e; cases e; cases d
    ·exact Vc b o es ep (fun q=>z ((if_neg hb).trans q)) e d
   ·by_cases hb:b=a
    ·subst hb
     rw [gL,K6]; exact hk
    ·exact Vd b fun q=>z ((if_neg hb).trans q)
theorem CO {l:PySem.W.OpenLaw} {n k:Nat} {q:Program} {loose:List Str} {XP:(Str->Option Value)->Heap->Prop} {YP:World->Heap->Prop} {d:DefRec} {K:Params->PySem.W.Frag} {CX:World->Bl} {sp:World->Sp} {x:Str}
  (hn:l.most=some n) (Ve:n<=sizeLine) (LW:d.params.defaults=[]) (hr:dq k callerA) (hY:∀ (w:World) (h:Heap),YP w h->(K w.params).In h)
  (F:∀ (w:World) (mg:Str->Option Value) (fa:Addr) (h:Heap),(K w.params).In h->h.Ns mainGlobals mg->mg d.name=some (.ref fa)->lR (K w.params) /\
   ∃ fd:FuncData,(∀ (s:Shared) (u:Value),BindsTo s fd ⟨[u],[]⟩ [(x,u)]) /\ ∀ base:Heap,(bz (K w.params)).In base->base.Ns mainGlobals mg->nI l.prog w (bz (K w.params)) mg base (CX w) k fa fd [x] (sp w))
  (BL:∀ (w:World) (H:Hp) (a:Addr) (ns:List Int),ns.length<=n->v7 (bz (K w.params)) H a (ns.map V.int)->(∀ p xs,(p,xs)∈bY->cx H p xs)->sp w [.ref a] H (fun v _=>v=.bl true) fun _ _ _=>False)
  (Pr:∀ (w:World) (H:Hp) (s:Shared) (e:Value) (s':Shared),CX w [] H s (fun _ _ _=>False) e s'->False):
  PySem.W.WalkO q loose XP YP l.row.toRowW d [] (fun f vs=>PySem.call f vs):=by
 refine UI.ug hn LW fun w eJ bu mg mb fa o pm cd doc a vs ns G Y ho hd qh LX IM hints hlen hg=>?_
 have KX:=hY w _ Y
 obtain ⟨C,fd,hb,hF⟩:=F w mg fa _ KX G.T.g LX
 exact AD C KX G.T.g G.T.b G.T.builtins G.T.nolimit hg IM hints (Nat.le_trans hlen Ve) hr hF hb (fun H hS hT=>BL w H a ns hlen hS hT) fun H e s'=>Pr w H bu e s'
def xi (neg:Bool):D->D->Option D:=fun x y=>match y with
 | .list l=>if (SeqAt.shaped x && l.all SeqAt.shaped)=true then some (.bool ((l.any fun z=>PyData.eqv z x) != neg)) else none
 | .tuple l=>if (SeqAt.shaped x && l.all SeqAt.shaped)=true then some (.bool ((l.any fun z=>PyData.eqv z x) != neg)) else none
 | _=>none
def MO (K:PySem.W.Frag) (neg:Bool):R2:=fun x y H Q=>∃ dy ds dx,HD K H y dy /\ (dy=.list ds \/ dy=.tuple ds) /\ HD K H x dx /\ SeqAt.shaped dx=true /\ ds.all SeqAt.shaped=true /\ Q (.bl ((ds.any fun z=>PyData.eqv z dx) != neg)) H
theorem lS {ds:List D} (h:ds.all SeqAt.shaped=true):PyData.canLayAll0 ds=true:=by
 induction ds with
 | nil=>rfl
 | cons d ds ih=>
   rw [List.all_cons,Bool.and_eq_true] at h
   have h1:=h.1
   unfold SeqAt.shaped at h1
   rw [Bool.and_eq_true] at h1
   rw [PyData.canLayAll0,h1.1,ih h.2]
   rfl
section
variable {X:Cx}
theorem y7 {k:Nat} {ds:List D} {dx:D} (hr:dq k X.A) (sx:SeqAt.shaped dx=true):X.A.units + 1 + min (PyData.depthAll ds) dx.depth < cLine:=by
 unfold SeqAt.shaped at sx
 rw [Bool.and_eq_true,decide_eq_true_eq] at sx
 have:=hr.un
 have:=sx.2
 omega
theorem AE {k:Nat} (hr:dq k X.A):gH X (compareOp .NotIn) (MO X.K true):=by
 intro pins s σ H x y v u Q I rx ry h
 obtain ⟨dy,ds,dx,hy,hd,hx,sx,NX,q⟩:=h
 obtain ⟨as,r1⟩:=hx.reads I rx (cR sx)
 rw [Bool.bne_true] at q
 rcases hd with rfl | rfl
 ·obtain ⟨bs,r2⟩:=hy.reads I ry (by rw [PyData.canLay0]; exact lS NX)
  exact SeqAt.notIn_list_reads r2 r1 (lS NX) (cR sx) (y7 hr sx) ⟨.bl _,H,I,rfl,q⟩
 ·obtain ⟨bs,r2⟩:=hy.reads I ry (by rw [PyData.canLay0]; exact lS NX)
  exact SeqAt.notIn_tuple_reads r2 r1 (lS NX) (cR sx) (y7 hr sx) ⟨.bl _,H,I,rfl,q⟩
end
set_option tactic.hygienic true in
theorem FK {K:PySem.W.Frag} {neg:Bool}:ik K (MO K neg) (xi neg):=by
 intro A H x y dx dy d Q al hx hy e q
 unfold xi at e
 cases dy with
 | list l=>
   simp only at e
   split at e
   ·rename_i c
    rw [Bool.and_eq_true] at c
    cases e
    exact ⟨_,l,dx,hy.Hu,.inl rfl,hx.Hu,c.1,c.2,q _ H (az.refl H) (.bl _)⟩
   ·cases e
 | tuple l=>
   simp only at e
   split at e
   ·rename_i c
    rw [Bool.and_eq_true] at c
    cases e
    exact ⟨_,l,dx,hy.Hu,.inr rfl,hx.Hu,c.1,c.2,q _ H (az.refl H) (.bl _)⟩
   ·cases e
 | _=>cases e
set_option tactic.hygienic true in
theorem y8 (gi:DS->Option (List D)) (ix:List Nat) (ge:DS->Option D):cO gi ix ge=cz gi 1 ix (aE 0) (fun _=>some true) ge:=by
 funext δ
 unfold cO cz
 cases gi δ with
 | none=>rfl
 | some ds=>
   rw [Option.bind_some,Option.bind_some]
   split
   ·induction ds with
    | nil=>rfl
    | cons d ds ih=>
      rename_i h
      rw [lM,pd,ih (by rw [List.length_cons] at h; omega)]
      show _=Option.bind (Option.map some (ge (some d :: c5 ix δ))) _
      cases ge (some d :: c5 ix δ) <;> rfl
   ·rfl
section
variable {X:Cx} {O:List Nat} {gi:DS->Option (List D)} {ix:List Nat} {ge:DS->Option D}
theorem PE.CP {e:Expr} (h:PE X e (tN X.K O (cz gi 1 ix (aE 0) (fun _=>some true) ge))):PE X e (tN X.K O (cO gi ix ge)):=by rw [y8]; exact h
theorem PS.CP {st:Stmt} {i:Nat} (h:PS X st (mq (tN X.K O (cz gi 1 ix (aE 0) (fun _=>some true) ge)) (eX i))):PS X st (mq (tN X.K O (cO gi ix ge)) (eX i)):=by rw [y8]; exact h
end
end L2
namespace L2
open PySem PySem.Spec PyProof.Rows PySem.Calls
set_option maxRecDepth 100000
section
variable {prog:Program} {w:World} {A:Around} {E:Value->Shared->Prop} {s:Shared}
end
section
variable {X:Cx} {O:List Nat} {a:Expr} {ge:DS->Option D} {p1 p2 q1 q2:Pos} {ta:TA}
end
end L2
namespace L2
open PySem PySem.Spec PyProof.Rows
def Vf (x:Str):It:=⟨fun i _=>i < x.cps.size,fun i H v H'=>H'=H /\ ∃ c,x.cps[i]?=some c /\ v=.str ⟨#[c]⟩,fun i _=>x.cps.size<=i⟩
theorem AF {P:Program} {w:World} {K:PySem.W.Frag} {tg:Expr} (x:Str) (t:Tok) (it:Addr):Turn P w K tg (Vf x) [it] it (fun i h=>h.IsStrIter it "str_ascii_iterator" x t i) where
 mem:=by simp
 obj:=fun i h st b hb=>by
  have e:b=it:=by simpa using hb
  subst e
  obtain ⟨o,e,c,d⟩:=st
  exact ⟨o,e,fun v z=>by rw [d] at z; cases z⟩
 keep:=fun i h h' st k=>by
  obtain ⟨o,e,r⟩:=st
  exact ⟨o,k it (by simp) o e,r⟩
 item:=by
  intro X hP hw hK hc i pins s σ H E I hf st hg
  subst hP hw hK
  obtain ⟨c,hx⟩:∃ c,x.cps[i]?=some c:=⟨x.cps[i]'hg,Array.getElem?_eq_getElem hg⟩
  obtain ⟨f0,f1,f2,f3,f4,f5⟩:=hf it (by simp)
  refine wpAny_pyNext_ascii_item st hx fun h' qj sb=>?_
  have I1:Inv X pins σ H { s with heap:=h',toks:=s.toks + 1 }:=I.turned (t':=s.toks + 1) (fun b o hb e=>(sb.2 b hb).trans e) f0 f1 f3 f4 f5
  obtain ⟨o,e,c',d⟩:=id qj
  exact ⟨_,rfl,uc (s:={ s with heap:=h',toks:=s.toks + 1 }) e c' d (by decide) ⟨.str ⟨#[c]⟩,H,I1,⟨_,rfl⟩,⟨rfl,c,hx,rfl⟩,qj,fun b hb=>(hf b hb).1⟩⟩
 done:=by
  intro X hP hw hK hc i pins s σ H E I hf st hg
  subst hP hw hK
  obtain ⟨f0,f1,f2,f3,f4,f5⟩:=hf it (by simp)
  exact wpAny_pyNext_ascii_end (I.ok.hd hc) st (Array.getElem?_eq_none hg) fun h' eb=>⟨rfl,I.turned (t':=s.toks) (fun b o hb e=>eb b o hb e) f0 f1 f3 f4 f5⟩
 self:=fun _ _ _ _ _ st h=>wpAny_pyIter_striter_ascii st h
def Px (tl:TE):TI:=fun σ H R=>tl σ H fun v H1=>∃ x,v=.str x /\ x.cps.all (· < 128)=true /\ R (Vf x) H1
def kJ (x:Str):List D:=x.cps.toList.map fun c=>.str ⟨#[c]⟩
def CQ (g:DS->Option D):DS->Option (List D):=fun δ=>(g δ).bind fun | .str x=>if x.cps.all (· < 128)=true then some (kJ x) else none | _=>none
section
variable {X:Cx} {O:List Nat} {tg e o y:Expr} {ge go:DS->Option D} {apos cM:Pos}
theorem FL {l:Expr} {tl:TE} (hl:PE X l tl):PI X tg l (Px tl):=by
 intro pins s σ H R I h
 refine dh (hl pins s σ H _ I h) fun v s1 ⟨x,H1,I1,r1,z,e,ha,q⟩=>?_
 subst e
 obtain ⟨t,rfl⟩:=r1
 refine wpAny_pyIter_ascii ha ?_
 refine ⟨s1.heap.objs.size,[s1.heap.objs.size],_,_,H1,rfl,I1.kept (t':=s1.toks) fun b o e=>Heap.get?_push_of_some _ e,AF z t _,⟨_,Heap.get?_push_size _ rfl,rfl,rfl⟩,fun b hb=>?_,q⟩
 have e:b=s1.heap.objs.size:=by simpa using hb
 subst e
 exact I1.mr (Nat.le_refl _) (I1.bE.fresh (Nat.le_refl _))
theorem HD.text {K:PySem.W.Frag} {H:Hp} {v:V} {x:Str} (h:HD K H v (.str x)):v=.str x:=by cases h; rfl
theorem CS (h:PE X e (tE X.K O ge)):PI X tg e (tI X.K O (CQ ge)):=(FL h).mono fun σ H Q hh=>hh.e fun U A0 δ ds R ed q=>by
 obtain ⟨x,e1,e2⟩:=bind1 ed
 cases x with
 | str x=>
   replace e2:(if x.cps.all (· < 128)=true then some (kJ x) else none)=some ds:=e2
   by_cases ha:x.cps.all (· < 128)=true
   ·rw [if_pos ha] at e2
    cases e2
    refine ⟨U,A0,δ,_,R,e1,fun v H' s h=>⟨x,h.text,ha,q _ H' s ?_⟩⟩
    intro A' i H2 s2 _
    refine ⟨fun d hd=>?_,fun hi=>?_⟩
    ·rw [kJ,List.getElem?_map,Array.getElem?_toList] at hd
     cases hc:x.cps[i]? with
     | none=>rw [hc] at hd; cases hd
     | some c=>
       rw [hc] at hd
       cases hd
       refine ⟨(Array.getElem?_eq_some_iff.mp hc).1,fun v H3 hy=>?_⟩
       obtain ⟨rfl,c',Ii,rfl⟩:=hy
       rw [hc] at Ii; cases Ii
       exact ⟨az.refl _,.str _⟩
    ·show x.cps.size<=i
     rw [hi,kJ,List.length_map,Array.length_toList]
     exact Nat.le_refl _
   ·rw [if_neg ha] at e2; cases e2
 | _=>cases e2
end
section
variable {X:Cx} {O:List Nat} {o e:Expr} {ga go ge:DS->Option D} {lo hi:Option Expr} {gl gh:DS->Option (Option Int)} {apos cM pos p2:Pos}
theorem part_of {v:Value} {i:Option Int} (h:IsPart v i):∃ l:Option (Int×Tok),v=partValue l /\ l.map (·.1)=i:=by
 cases h with
 | none=>exact ⟨none,rfl,rfl⟩
 | int i t=>exact ⟨some (i,t),rfl,rfl⟩
end
end L2
namespace L2
open PySem PySem.Spec PySem.W PyProof.Rows
section
variable {X:Cx} {O:List Nat} {o e:Expr} {go ge:DS->Option D} {cM apos:Pos}
end
end L2
namespace L2
open PySem PySem.Spec PyProof.Rows
section
variable {X:Cx} {O:List Nat} {fr:Fr} {st:Stmt}
end
def b4:List Int->Int
 | []=>0
 | n :: ns=>n + b4 ns
theorem lT:∀ a b:List Int,b4 (a ++ b)=b4 a + b4 b
 | [],b=>by rw [List.nil_append,b4,Int.zero_add]
 | x :: a,b=>by rw [List.cons_append,b4,lT a b,b4,Int.add_assoc]
theorem y9 (ns:List Int):∀ k,k<=ns.length->preSum (fun i=>ns.getD i 0) k=b4 (ns.take k)
 | 0,_=>rfl
 | k + 1,h=>by
   have hk:k < ns.length:=h
   rw [preSum,y9 ns k (Nat.le_of_lt hk),List.take_add_one,List.getElem?_eq_getElem hk,lT,List.getD_eq_getElem?_getD,List.getElem?_eq_getElem hk]
   show _=_ + (ns[k] + 0)
   rw [Int.add_zero]; rfl
theorem rB {X:Cx} (hc:X.calm=true):dU X (.builtin "sum") (fun xs H Q=>∃ (p:Addr) (ns:List Int),xs=[.ref p] /\ fY X.K H p (ns.map V.int) /\ Q (.int (b4 ns)) H):=by
 intro pins s σ H xs us Q I r h
 obtain ⟨p,ns,rfl,hq,q⟩:=h
 obtain ⟨u,rfl,rx⟩:=vals1 r
 cases rx
 obtain ⟨its,rv,pl,_⟩:=I.list hq
 have hl:=rv.length
 rw [List.length_map] at hl
 have g5:p≠s.heap.objs.size:=by
  obtain ⟨o,n,e1,_⟩:=pl
  exact Nat.ne_of_lt (Heap.lt_size e1)
 refine call_sum_walkAnyS (wpAny_pyIter_list pl.isList ?_)
 refine ⟨s.heap.objs.size,[s.heap.objs.size,p],[s.heap.objs.size],_,_,_,_,fun i=>ns.getD i 0,rfl,(Walks.list (A:=X.A.in1) (I.ok.hd hc) _ p g5 its.toArray).toS,⟨⟨_,Heap.get?_push_size _ rfl,rfl,rfl⟩,pl.isList.push _⟩,fun b hb=>?_,fun i v hP=>?_,fun s' t' mv=>?_⟩
 ·rw [Heap.size_push]
  rcases List.mem_cons.mp hb with z | z
  ·rw [z]; exact Nat.lt_succ_self _
  ·rw [List.mem_singleton.mp z]
   obtain ⟨o,n,e1,_⟩:=pl
   exact Nat.lt_succ_of_lt (Heap.lt_size e1)
 ·have Vg:its[i]?=some v:=by simpa using hP
  have hi:=(List.getElem?_eq_some_iff.mp Vg).1
  obtain ⟨w',hw,zZ⟩:=rv.get (i:=i) (x:=V.int (ns.getD i 0)) (by rw [List.getElem?_map,List.getD_eq_getElem?_getD,List.getElem?_eq_getElem (by omega)]; rfl)
  rw [Vg] at hw; cases hw
  exact zZ
 ·have e:preSum (fun i=>ns.getD i 0) its.toArray.size=b4 ns:=by
   rw [List.size_toArray,<- hl,y9 ns _ (Nat.le_refl _),List.take_length]
  rw [e]
  obtain ⟨hx,gx,dx,tx,ox⟩:=s'
  have eg:gx=s.gens:=mv.gens
  have ed:dx=s.drawn:=mv.drawn
  have eo:ox=s.os:=mv.os
  subst eg ed eo
  refine ⟨.int (b4 ns),H,I.kept (h':=hx) (t':=tx) fun b o e=>mv.heap b o (fun z=>?_) (Heap.get?_push_of_some _ e),⟨t',rfl⟩,q⟩
  rw [List.mem_singleton] at z
  exact absurd (Heap.lt_size e) (by rw [z]; exact Nat.lt_irrefl _)
theorem CU:bootBuiltins "sum"=some (.builtin "sum"):=by decide +kernel
def AG:List D->Option D
 | [.list l]=>(kl l).map fun ns=>.int (b4 ns)
 | _=>none
set_option tactic.hygienic true in
theorem za {K:PySem.W.Frag}:qv K (fun xs H Q=>∃ (p:Addr) (ns:List Int),xs=[.ref p] /\ fY K H p (ns.map V.int) /\ Q (.int (b4 ns)) H) AG:=by
 intro A H vs ds d Q al h e q
 unfold AG at e
 split at e
 ·rename_i l
  cases hl:kl l with
  | none=>rw [hl] at e; cases e
  | some ns=>
    rw [hl] at e; cases e
    have:=iZ hl
    subst this
    cases h with
    | cons h1 h2=>
      cases h2
      obtain ⟨p,ys,rfl,hp,hy⟩:=h1.list
      have:=cy.toInts hy
      subst this
      exact ⟨p,ns,rfl,hp.sq,q _ H (az.refl H) (.int _)⟩
 ·cases e
end L2
namespace L2
open PySem PySem.Spec PySem.W PyProof.Rows
theorem qz:entryFor table "proto.unchain"=some Builtin.«proto.unchain»:=entryFor_of_fast (by kernel_rfl)
section
variable {prog:Program} {w:World} {A:Around} {E:Value->Shared->Prop} {s:Shared}
theorem sE {x:Addr} {ox:Obj} {fs:Array Value} {e:Value} {Q:Value->Shared->Prop} (ho:s.heap.get? x=some ox) (hd:ox.data=.fields fs) (h2:fs[2]?=some Value.none) (hQ:Q .none s):
  wpAny (model prog w) A (runValue (.builtin "proto.unchain" ⟨[e,.ref x,.ref x,.bool false],[]⟩)) Q E s:=by
 refine wpAny_runValue (codeAny_builtin qz ?_)
 unfold Builtin.«proto.unchain»
 show wpAny _ _ (field (.ref x) 2 >>= _) _ _ s
 refine wpAny_bind (wpAny_field ho hd h2 ?_)
 exact wpAny_pure hQ
theorem uP {α:Type} {a x:Addr} {ox oa:Obj} {fs va:Array Value} {Q:α->Shared->Prop} (hh:A.handled=some (.ref x)) (iU:x≠a) (ho:s.heap.get? x=some ox) (hd:ox.data=.fields fs) (h2:fs[2]?=some Value.none)
  (Vh:s.heap.get? a=some oa) (WL:oa.data=.fields va) (hsz:2 < va.size) (hE:E (.ref a) { s with heap:=s.heap.update a (Obj.mapFields (·.setIfInBounds 2 (.ref x))) }):
  wpAny (model prog w) A (raiseNew (α:=α) (.ref a)) Q E s:=by
 unfold raiseNew
 refine wpAny_bind (wpAny_handled ?_)
 rw [hh]
 have hb:(Value.ref x != Value.ref a)=true:=bne_iff_ne.mpr fun e=>iU (Value.ref.inj e)
 show wpAny _ _ (if (Value.ref x != Value.ref a)=true then _ else _) _ _ s
 rw [if_pos hb]
 refine wpAny_bind (wpAny_holding (sE ho hd h2 ?_))
 refine wpAny_bind ?_
 unfold updateField
 refine wpAny_bind (wpAny_load Vh ?_)
 rw [WL]
 dsimp only
 rw [if_pos hsz]
 refine wpAny_update Vh ?_
 exact wpAny_throw hE
theorem qA {it x:Addr} {ox:Obj} {fs:Array Value} {y left step:Int} {Q:Option Value->Shared->Prop} (hh:A.handled=some (.ref x)) (ho:s.heap.get? x=some ox) (hd:ox.data=.fields fs) (h2:fs[2]?=some Value.none)
  (hit:IsRangeIter s.heap it y left step) (MP:left<=0) (hQ:∀ h',Heap.ExtBut it s.heap h'->Q none { s with heap:=h' }):wpAny (model prog w) A (pyNext (.ref it)) Q E s:=by
 have hT:s.TypeIs (.ref it) "range_iterator":=⟨_,hit,rfl⟩
 unfold pyNext
 refine wpAny_bind (wpAny_attempt (wpAny_callSpecial?_slot (name:=Str.ofString "__next__") hT F.slot_range_iterator_next
  (wpAny_call_entry F.slot_range_iterator_next hT F.entry_range_iterator_next ?_ (F.args_range_iterator_next_1 _))))
 show wpAny _ _ (field (.ref it) 0 >>= _) _ _ s
 refine wpAny_bind (wpAny_field hit rfl (x:=rawInt y) rfl ?_)
 show wpAny _ _ (field (.ref it) 1 >>= _) _ _ s
 refine wpAny_bind (wpAny_field hit rfl (x:=rawInt left) rfl ?_)
 show wpAny _ _ (field (.ref it) 2 >>= _) _ _ s
 refine wpAny_bind (wpAny_field hit rfl (x:=rawInt step) rfl ?_)
 show wpAny _ _ (if left<=0 then _ else _) _ _ s
 rw [if_pos MP]
 refine wpAny_bind (wpAny_rule ?_)
 refine wpAny_bind ?_
 show wpAny _ _ (newExc (.type "StopIteration") [] >>= _) _ _ _
 refine wpAny_bind ?_
 simp only [newExc,newTuple]
 refine wpAny_bind (wpAny_newObj_type ?_ (by size_fits))
 refine wpAny_bind (m:=firstArgMember _ _) (wpAny_of_eq (a:=Value.none) (by first | rfl | (simp only [firstArgMember]; rfl)) ?_)
 refine wpAny_newObj_type ?_ (by size_fits)
 have hx:x < s.heap.objs.size:=Heap.lt_size ho
 refine uP (x:=x) hh ?_ (Heap.get?_push_of_some _ (Heap.get?_push_of_some _ ho)) hd h2 (Heap.get?_push_size _ rfl) rfl (by rw [Array.size_append]; exact Nat.lt_of_lt_of_le (show 2 < 6 by decide) (Nat.le_add_right _ _)) ?_
 ·intro e
  rw [e] at hx
  have:s.heap.objs.size<=(s.heap.push { cls:=.type "tuple",data:=.seq [].toArray }).objs.size:=by simp [Heap.push]
  exact absurd (Nat.lt_of_lt_of_le hx this) (Nat.lt_irrefl _)
 ·refine wpAny_bind (wpAny_isInstance (T:="StopIteration") (b:=true) ⟨_,Heap.get?_update_self _ (Heap.get?_push_size _ rfl) ?_,?_⟩ isSubtype_stop ?_)
  ·exact Obj.isFreed_of_fields (Obj.data_mapFields rfl _)
  ·exact (Obj.cls_mapFields ..).trans rfl
  ·refine wpAny_pure (hQ _ fun b o hb e=>?_)
   have e2:=Heap.get?_push_of_some { cls:=.type "tuple",data:=.seq [].toArray } e
   refine (((Heap.SameBut.update ..).2 b ?_).trans (Heap.get?_push_of_some _ e2))
   intro z
   have:=Heap.lt_size e2
   rw [z] at this
   exact absurd this (Nat.lt_irrefl _)
end
end L2
namespace L2
open PySem
def WM (M:Model) (Γ:Ctx) (p:Pos) (t:Sem Fin) (s:Shared) (e:End) (s':Shared):Prop:=match t with
 | .pure (.done f)=>e=.ret (.ok f) /\ s'=s
 | .pure (.again c)=>Runs M (Γ.goto c) p (M.den c) [] s e s'
 | .raise x=>e=.ret (.error x) /\ s'=s
 | .rule _ k=>Runs M Γ p (k ()) [] s e s'
 | .at p' k=>Runs M Γ p' (k ()) [] s e s'
 | .load a _ k=>∃ o,s.heap.get? a=some o /\ Runs M Γ p (k o) [] s e s'
 | .update a _ f k=>Runs M Γ p (k ()) [] { s with heap:=s.heap.update a f } e s'
 | .loadIfAlive a k=>Runs M Γ p (k (s.heap.get? a)) [] s e s'
 | .point _ k=>Runs M Γ p (k ()) [] s e s'
 | .alloc o k=>Runs M Γ p (k s.heap.objs.size) [] { s with heap:=s.heap.push o } e s'
 | .fresh k=>Runs M Γ p (k s.toks) [] { s with toks:=s.toks + 1 } e s'
 | .ask k=>Runs M Γ p (k ⟨M.prog,M.w.params⟩) [] s e s'
 | .choose src n k=>Runs M Γ p (k (M.w.draws src (s.drawn.get src) % n)) [] { s with drawn:=s.drawn.bump src } e s'
 | .os q _ k=>Runs M Γ p (k (Os.step s.os q).2) [] { s with os:=(Os.step s.os q).1 } e s'
 | .handled own k=>Runs M Γ p (k (if own then Γ.own else Γ.handled)) [] s e s'
 | .genState g k=>∃ st,s.gens[g]?=some st /\ Runs M Γ p (k st.seen) [] s e s'
 | .stack k=>Runs M Γ p (k ((Γ.code,p) :: Γ.below)) [] s e s'
 | .thread k=>Runs M Γ p (k 0) [] s e s'
 | .newGen c k=>Runs M Γ p (k s.gens.size) [] { s with gens:=s.gens.push (.fresh c) } e s'
 | .call c h g l k=>∃ e1 s1,Runs M (Γ.enter c h p) p (M.den c) [] s e1 s1 /\ ((∃ r,e1=.ret r /\ Runs M Γ p (k r) [] s1 e s') \/ ∃ v AH uQ sF c₀ sG fs,e1=.susp v AH uQ sF c₀ sG fs /\ s'=s1 /\ e=.susp v AH uQ sF c₀ sG (fs ++ [.ret k h g l Γ.code p []]))
 | .yield v g l k=>e=.susp v g l k Γ.code p [] /\ s'=s
 | .resume g r _ k=>∃ st,s.gens[g]?=some st /\ ((∃ c,st=.fresh c /\ ((r=.send .none /\ ∃ e1 s1,Runs M (Γ.wake c p) p (M.den c) [] (s.setGen g .running) e1 s1 /\ Runs M Γ p (k e1.result) [] (s1.setGen g e1.genState) e s') \/ (∃ v,r=.send v /\ v≠.none /\ Runs M Γ p (k .justStarted) [] s e s') \/ ∃ x,r=.throw x /\ Runs M Γ p (k (.raised x)) [] (s.setGen g .finished) e s')) \/
   (∃ sF uQ c₀ sG fs cl,st=.suspended sF uQ c₀ sG fs cl /\ ∃ e1 s1,Runs M (Γ.wake c₀ p) sG (sF r) fs (s.setGen g .running) e1 s1 /\ Runs M Γ p (k e1.result) [] (s1.setGen g e1.genState) e s') \/
   (st=.running /\ Runs M Γ p (k .running) [] s e s') \/ (st=.finished /\ Runs M Γ p (k .finished) [] s e s'))
 | _=>False
def WN (M:Model) (Γ:Ctx) (p:Pos) (t:Sem Fin) (F:Frame) (fs:List Frame) (s:Shared) (e:End) (s':Shared):Prop:=∃ e1 s1,Runs M (Γ.over (F :: fs)) p t [] s e1 s1 /\
 ((∃ k h g l c₁ uR kp r,F=.ret k h g l c₁ uR kp /\ e1=.ret r /\ Runs M (Γ.goto c₁) uR (k r) fs s1 e s') \/ (∃ g k l c₁ uR r,F=.gen g k l c₁ uR /\ e1=.ret r /\ Runs M (Γ.goto c₁) uR (k (End.ret r).result) fs (s1.setGen g .finished) e s') \/
  ∃ v AH uQ sF c₀ sG CV,e1=.susp v AH uQ sF c₀ sG CV /\ ((splitAtGen (F :: fs)=none /\ s'=s1 /\ e=.susp v AH uQ sF c₀ sG (CV ++ F :: fs)) \/
    ∃ pre g k c₁ uR rest,splitAtGen (F :: fs)=some (pre,(g,k,c₁,uR),rest) /\ Runs M (Γ.goto c₁) uR (k (.yielded v)) rest (s1.setGen g (End.susp v AH uQ sF c₀ sG (CV ++ pre)).genState) e s'))
def WO (M:Model) (Γ:Ctx) (p:Pos) (t:Sem Fin) (fs:List Frame) (s:Shared) (e:End) (s':Shared):Prop:=match fs with
 | []=>WM M Γ p t s e s'
 | F :: fs=>WN M Γ p t F fs s e s'
theorem aO {M:Model} {Γ:Ctx} {p:Pos} {t:Sem Fin} {fs:List Frame} {s:Shared} {e:End} {s':Shared} (h:Runs M Γ p t fs s e s'):WO M Γ p t fs s e s':=by
 cases h with
 | done=>exact ⟨rfl,rfl⟩
 | raise=>exact ⟨rfl,rfl⟩
 | again _ r=>exact r
 | rule r=>exact r
 | «at» r=>exact r
 | load g r=>exact ⟨_,g,r⟩
 | update _ r=>exact r
 | loadIfAlive r=>exact r
 | point r=>exact r
 | alloc r=>exact r
 | fresh r=>exact r
 | ask r=>exact r
 | choose _ r=>exact r
 | os r=>exact r
 | handled r=>exact r
 | genState g r=>exact ⟨_,g,r⟩
 | stack r=>exact r
 | thread r=>exact r
 | newGen r=>exact r
 | call a b=>exact ⟨_,_,a,.inl ⟨_,rfl,b⟩⟩
 | callSusp a=>exact ⟨_,_,a,.inr ⟨_,_,_,_,_,_,_,rfl,rfl,rfl⟩⟩
 | yield=>exact ⟨rfl,rfl⟩
 | resumeFresh g a _ b=>exact ⟨_,g,.inl ⟨_,rfl,.inl ⟨rfl,_,_,a,b⟩⟩⟩
 | resumeSuspended g a _ b=>exact ⟨_,g,.inr (.inl ⟨_,_,_,_,_,_,rfl,_,_,a,b⟩)⟩
 | resumeJustStarted g n b=>exact ⟨_,g,.inl ⟨_,rfl,.inr (.inl ⟨_,rfl,n,b⟩)⟩⟩
 | resumeThrowFresh g b=>exact ⟨_,g,.inl ⟨_,rfl,.inr (.inr ⟨_,rfl,b⟩)⟩⟩
 | resumeRunning g b=>exact ⟨_,g,.inr (.inr (.inl ⟨rfl,b⟩))⟩
 | resumeFinished g b=>exact ⟨_,g,.inr (.inr (.inr ⟨rfl,b⟩))⟩
 | segRet a b=>exact ⟨_,_,a,.inl ⟨_,_,_,_,_,_,_,_,rfl,rfl,b⟩⟩
 | segGen a b=>exact ⟨_,_,a,.inr (.inl ⟨_,_,_,_,_,_,rfl,rfl,b⟩)⟩
 | segSuspOut g a=>exact ⟨_,_,a,.inr (.inr ⟨_,_,_,_,_,_,_,rfl,.inl ⟨g,rfl,rfl⟩⟩)⟩
 | segSuspGen g a _ b=>exact ⟨_,_,a,.inr (.inr ⟨_,_,_,_,_,_,_,rfl,.inr ⟨_,_,_,_,_,_,g,b⟩⟩)⟩
theorem pq {M:Model} {Γ:Ctx} {p:Pos} {t:Sem Fin} {fs:List Frame} {s:Shared} {e:End} {s':Shared} (h:Runs M Γ p t fs s e s'):∀ {e2:End} {s2:Shared},Runs M Γ p t fs s e2 s2->e=e2 /\ s'=s2:=by
 induction h with
 | done=>intro e2 s2 h2; obtain ⟨rfl,rfl⟩:=aO h2; exact ⟨rfl,rfl⟩
 | raise=>intro e2 s2 h2; obtain ⟨rfl,rfl⟩:=aO h2; exact ⟨rfl,rfl⟩
 | again _ _ ih=>intro e2 s2 h2; exact ih (aO h2)
 | rule _ ih=>intro e2 s2 h2; exact ih (aO h2)
 | «at» _ ih=>intro e2 s2 h2; exact ih (aO h2)
 | load g _ ih=>intro e2 s2 h2; obtain ⟨o,g2,r⟩:=aO h2; cases g.symm.trans g2; exact ih r
 | update _ _ ih=>intro e2 s2 h2; exact ih (aO h2)
 | loadIfAlive _ ih=>intro e2 s2 h2; exact ih (aO h2)
 | point _ ih=>intro e2 s2 h2; exact ih (aO h2)
 | alloc _ ih=>intro e2 s2 h2; exact ih (aO h2)
 | fresh _ ih=>intro e2 s2 h2; exact ih (aO h2)
 | ask _ ih=>intro e2 s2 h2; exact ih (aO h2)
 | choose _ _ ih=>intro e2 s2 h2; exact ih (aO h2)
 | os _ ih=>intro e2 s2 h2; exact ih (aO h2)
 | handled _ ih=>intro e2 s2 h2; exact ih (aO h2)
 | genState g _ ih=>intro e2 s2 h2; obtain ⟨o,g2,r⟩:=aO h2; cases g.symm.trans g2; exact ih r
 | stack _ ih=>intro e2 s2 h2; exact ih (aO h2)
 | thread _ ih=>intro e2 s2 h2; exact ih (aO h2)
 | newGen _ ih=>intro e2 s2 h2; exact ih (aO h2)
 | call _ _ uS CW=>
   intro e2 s2 h2
   obtain ⟨e1,s1,a,⟨r,rfl,b⟩ | ⟨_,_,_,_,_,_,_,rfl,_,_⟩⟩:=aO h2
   ·obtain ⟨x,rfl⟩:=uS a; cases x; exact CW b
   ·obtain ⟨x,_⟩:=uS a; cases x
 | callSusp _ uS=>
   intro e2 s2 h2
   obtain ⟨e1,s1,a,⟨r,rfl,b⟩ | ⟨_,_,_,_,_,_,_,rfl,rfl,rfl⟩⟩:=aO h2
   ·obtain ⟨x,_⟩:=uS a; cases x
   ·obtain ⟨x,rfl⟩:=uS a; cases x; exact ⟨rfl,rfl⟩
 | yield=>intro e2 s2 h2; obtain ⟨rfl,rfl⟩:=aO h2; exact ⟨rfl,rfl⟩
 | resumeFresh g _ _ _ uS CW=>
   intro e2 s2 h2
   obtain ⟨st,g2,o⟩:=aO h2
   cases g.symm.trans g2
   rcases o with ⟨c,z,⟨_,e1,s1,a,b⟩ | ⟨v,z2,n,_⟩ | ⟨x,z2,_⟩⟩ | ⟨_,_,_,_,_,_,z,_⟩ | ⟨z,_⟩ | ⟨z,_⟩
   ·cases z; obtain ⟨rfl,rfl⟩:=uS a; exact CW b
   ·cases z2; exact (n rfl).elim
   ·cases z2
   ·cases z
   ·cases z
   ·cases z
 | resumeSuspended g _ _ _ uS CW=>
   intro e2 s2 h2
   obtain ⟨st,g2,o⟩:=aO h2
   cases g.symm.trans g2
   rcases o with ⟨c,z,_⟩ | ⟨_,_,_,_,_,_,z,e1,s1,a,b⟩ | ⟨z,_⟩ | ⟨z,_⟩
   ·cases z
   ·cases z; obtain ⟨rfl,rfl⟩:=uS a; exact CW b
   ·cases z
   ·cases z
 | resumeJustStarted g n _ ih=>
   intro e2 s2 h2
   obtain ⟨st,g2,o⟩:=aO h2
   cases g.symm.trans g2
   rcases o with ⟨c,z,⟨z2,_⟩ | ⟨v,z2,_,b⟩ | ⟨x,z2,_⟩⟩ | ⟨_,_,_,_,_,_,z,_⟩ | ⟨z,_⟩ | ⟨z,_⟩
   ·cases z2; exact (n rfl).elim
   ·exact ih b
   ·cases z2
   ·cases z
   ·cases z
   ·cases z
 | resumeThrowFresh g _ ih=>
   intro e2 s2 h2
   obtain ⟨st,g2,o⟩:=aO h2
   cases g.symm.trans g2
   rcases o with ⟨c,z,⟨z2,_⟩ | ⟨v,z2,_,_⟩ | ⟨x,z2,b⟩⟩ | ⟨_,_,_,_,_,_,z,_⟩ | ⟨z,_⟩ | ⟨z,_⟩
   ·cases z2
   ·cases z2
   ·cases z2; exact ih b
   ·cases z
   ·cases z
   ·cases z
 | resumeRunning g _ ih=>
   intro e2 s2 h2
   obtain ⟨st,g2,o⟩:=aO h2
   cases g.symm.trans g2
   rcases o with ⟨c,z,_⟩ | ⟨_,_,_,_,_,_,z,_⟩ | ⟨_,b⟩ | ⟨z,_⟩
   ·cases z
   ·cases z
   ·exact ih b
   ·cases z
 | resumeFinished g _ ih=>
   intro e2 s2 h2
   obtain ⟨st,g2,o⟩:=aO h2
   cases g.symm.trans g2
   rcases o with ⟨c,z,_⟩ | ⟨_,_,_,_,_,_,z,_⟩ | ⟨z,_⟩ | ⟨_,b⟩
   ·cases z
   ·cases z
   ·cases z
   ·exact ih b
 | segRet _ _ uS CW=>
   intro e2 s2 h2
   obtain ⟨e1,s1,a,o⟩:=aO h2
   obtain ⟨rfl,rfl⟩:=uS a
   rcases o with ⟨_,_,_,_,_,_,_,_,z,z2,b⟩ | ⟨_,_,_,_,_,_,z,_,_⟩ | ⟨_,_,_,_,_,_,_,z,_⟩
   ·cases z; cases z2; exact CW b
   ·cases z
   ·cases z
 | segGen _ _ uS CW=>
   intro e2 s2 h2
   obtain ⟨e1,s1,a,o⟩:=aO h2
   obtain ⟨rfl,rfl⟩:=uS a
   rcases o with ⟨_,_,_,_,_,_,_,_,z,_,_⟩ | ⟨_,_,_,_,_,_,z,z2,b⟩ | ⟨_,_,_,_,_,_,_,z,_⟩
   ·cases z
   ·cases z; cases z2; exact CW b
   ·cases z
 | segSuspOut g _ uS=>
   intro e2 s2 h2
   obtain ⟨e1,s1,a,o⟩:=aO h2
   obtain ⟨rfl,rfl⟩:=uS a
   rcases o with ⟨_,_,_,_,_,_,_,_,_,z,_⟩ | ⟨_,_,_,_,_,_,_,z,_⟩ | ⟨_,_,_,_,_,_,_,z,⟨_,z2,z3⟩ | ⟨_,_,_,_,_,_,g2,_⟩⟩
   ·cases z
   ·cases z
   ·cases z; cases z2; cases z3; exact ⟨rfl,rfl⟩
   ·cases g.symm.trans g2
 | segSuspGen g _ _ _ uS CW=>
   intro e2 s2 h2
   obtain ⟨e1,s1,a,o⟩:=aO h2
   obtain ⟨rfl,rfl⟩:=uS a
   rcases o with ⟨_,_,_,_,_,_,_,_,_,z,_⟩ | ⟨_,_,_,_,_,_,_,z,_⟩ | ⟨_,_,_,_,_,_,_,z,⟨g2,_,_⟩ | ⟨_,_,_,_,_,_,g2,b⟩⟩
   ·cases z
   ·cases z
   ·cases g.symm.trans g2
   ·cases z; cases g.symm.trans g2; exact CW b
theorem AI {M:Model} {Γ:Ctx} {p:Pos} {g:Nat} {r:Resume} {s:Shared} {a b:GenResult} {s1 s2:Shared} (h1:Wakes M Γ p g r s a s1) (h2:Wakes M Γ p g r s b s2):a=b /\ s1=s2:=by
 unfold Wakes at h1 h2
 cases hg:s.gens[g]? with
 | none=>rw [hg] at h1; exact h1.elim
 | some gs=>
   rw [hg] at h1 h2
   cases gs with
   | fresh c=>
     cases r with
     | send v=>
       cases v with
       | none=>
         obtain ⟨e1,t1,x1,_,rfl,rfl⟩:=h1
         obtain ⟨e2,t2,x2,_,rfl,rfl⟩:=h2
         obtain ⟨rfl,rfl⟩:=pq x1 x2
         exact ⟨rfl,rfl⟩
       | _=>exact ⟨h1.1.trans h2.1.symm,h1.2.trans h2.2.symm⟩
     | throw x=>exact ⟨h1.1.trans h2.1.symm,h1.2.trans h2.2.symm⟩
   | suspended k0 l0 c0 p0 fs cl=>
     obtain ⟨e1,t1,x1,_,rfl,rfl⟩:=h1
     obtain ⟨e2,t2,x2,_,rfl,rfl⟩:=h2
     obtain ⟨rfl,rfl⟩:=pq x1 x2
     exact ⟨rfl,rfl⟩
   | running=>exact ⟨h1.1.trans h2.1.symm,h1.2.trans h2.2.symm⟩
   | finished=>exact ⟨h1.1.trans h2.1.symm,h1.2.trans h2.2.symm⟩
theorem JM {α:Type} (M:Model) (Γ:Ctx) (t:Sem α):∀ {Q1 Q2:α->Pos->Shared->Prop} {E1 E2:Value->Pos->Shared->Prop} {p:Pos} {s:Shared},Sem.wp M Γ t Q1 E1 p s->Sem.wp M Γ t Q2 E2 p s->
  Sem.wp M Γ t (fun a p s=>Q1 a p s /\ Q2 a p s) (fun e p s=>E1 e p s /\ E2 e p s) p s:=by
 induction t with
 | pure a=>intro _ _ _ _ _ _ h1 h2; rw [Sem.wp] at h1 h2 ⊢; exact ⟨h1,h2⟩
 | raise e=>intro _ _ _ _ _ _ h1 h2; rw [Sem.wp] at h1 h2 ⊢; exact ⟨h1,h2⟩
 | load a part k ih=>
   intro _ _ _ _ _ _ h1 h2
   rw [Sem.wp] at h1 h2 ⊢
   obtain ⟨o,g,h1⟩:=h1
   obtain ⟨o2,g2,h2⟩:=h2
   rw [g] at g2; cases g2
   exact ⟨o,g,ih _ h1 h2⟩
 | update a part f k ih=>intro _ _ _ _ _ _ h1 h2; rw [Sem.wp] at h1 h2 ⊢; exact ⟨h1.1,ih _ h1.2 h2.2⟩
 | choose src n k ih=>intro _ _ _ _ _ _ h1 h2; rw [Sem.wp] at h1 h2 ⊢; exact ⟨h1.1,ih _ h1.2 h2.2⟩
 | call c h g l k ih=>
   intro _ _ _ _ _ _ h1 h2
   rw [Sem.wp] at h1 h2 ⊢
   obtain ⟨r,s1,x1,h1⟩:=h1
   obtain ⟨r2,s2,x2,h2⟩:=h2
   obtain ⟨e,rfl⟩:=pq x1 x2
   cases e
   exact ⟨r,s1,x1,ih _ h1 h2⟩
 | genState g k ih=>
   intro _ _ _ _ _ _ h1 h2
   rw [Sem.wp] at h1 h2 ⊢
   obtain ⟨o,g,h1⟩:=h1
   obtain ⟨o2,g2,h2⟩:=h2
   rw [g] at g2; cases g2
   exact ⟨o,g,ih _ h1 h2⟩
 | resume g r l k ih=>
   intro _ _ _ _ _ _ h1 h2
   rw [Sem.wp] at h1 h2 ⊢
   obtain ⟨r,s1,x1,h1⟩:=h1
   obtain ⟨r2,s2,x2,h2⟩:=h2
   obtain ⟨rfl,rfl⟩:=AI x1 x2
   exact ⟨r,s1,x1,ih _ h1 h2⟩
 | unsupported | finish | yield | fork | await | register=>intro _ _ _ _ _ _ h1 _; rw [Sem.wp] at h1; exact h1.elim
 | rule _ k ih | «at» _ k ih | alloc _ k ih | loadIfAlive _ k ih | point _ k ih | fresh k ih | ask k ih | os _ _ k ih | handled _ k ih | newGen _ k ih | stack k ih | thread k ih=>intro _ _ _ _ _ _ h1 h2; rw [Sem.wp] at h1 h2 ⊢; exact ih _ h1 h2
theorem iF {α:Type} {M:Model} {A:Around} {t:Sem α} {Q1 Q2:α->Shared->Prop} {E1 E2:Value->Shared->Prop} {s:Shared} (h1:wpAny M A t Q1 E1 s) (h2:wpAny M A t Q2 E2 s):
  wpAny M A t (fun a s=>Q1 a s /\ Q2 a s) (fun e s=>E1 e s /\ E2 e s) s:=fun Γ p Vi=>JM M Γ t (h1 Γ p Vi) (h2 Γ p Vi)
end L2
namespace L2
open PySem PySem.Spec PySem.W PyProof.Rows
section
variable {M:Model} {A:Around} {E:Value->Shared->Prop} {s:Shared} {base:Heap} {env:Env} {outer:List Env} {L e:Addr} {cls a0:Value}
theorem cb.upd {h:Heap} {a e:Addr} {i:Nat} {v:Value} (x:cb h e) (hi:a≠e \/ i≠2):cb (h.update a (Obj.mapFields (·.setIfInBounds i v))) e:=by
 obtain ⟨o,fs,ho,hd,h2⟩:=x
 by_cases z:a=e
 ·subst z
  have Pp:i≠2:=hi.resolve_left fun q=>q rfl
  refine ⟨_,_,Heap.get?_update_self _ ho (Obj.isFreed_of_fields (Obj.data_mapFields hd _)),Obj.data_mapFields hd _,?_⟩
  rw [Array.getElem?_setIfInBounds_ne Pp]; exact h2
 ·exact ⟨o,fs,(Heap.get?_update_other _ _ z).trans ho,hd,h2⟩
theorem cb.push {h:Heap} {e:Addr} (x:cb h e) (o:Obj):cb (h.push o) e:=let ⟨p,fs,ho,r⟩:=x; ⟨p,fs,Heap.get?_push_of_some _ ho,r⟩
theorem rC {oe:Obj} {vs:Array Value} {head:Value} {b:Bool} {Q:Unit->Shared->Prop} (jV:A.frames=some (env :: outer)) (hl:s.heap.FunFrames base (env :: outer)) (hf:env.frame=some L)
  (he:s.heap.get? e=some oe) (hd:oe.data=.fields vs) (hsz:1 < vs.size) (h2:vs[2]?=some Value.none)
  (h:∀ h' T oT ts,cb h' e->(∃ o ws,h'.get? e=some o /\ o.data=.fields ws /\ ws[1]?=some (.ref T))->h'.get? T=some oT->oT.data=.fields ts->3 < ts.size->T≠e->Q () { s with heap:=h' }):
  wpAny M A (do let a <- frameOf env; let pl <- entryPlaceOf L b; let c <- EntryCells.newEntry head a .none (rawInt L) .none pl; setField (.ref e) 1 c) Q E s:=by
 have ne:e∉(env :: outer).filterMap (·.frame):=fun hm=>by
  obtain ⟨_,o,ho,JN⟩:=hl.mem hm
  rw [he] at ho; cases ho; exact JN vs hd
 refine wpAny_bind (wpAny_frameOf_fun jV hl hf fun h1 hs=>?_)
 refine wpAny_bind (wpAny_entryPlaceOf fun pl js=>?_)
 unfold EntryCells.newEntry newFields
 refine wpAny_bind (wpAny_newObj_type ?_ (js.sizeOk5 _ _ _ _ _))
 have e1:h1.get? e=some oe:=(hs.2.1 e ne).trans he
 have lt:=Heap.lt_size e1
 have hT:=(Heap.get?_update_other (h1.push { cls:=.type "traceback",dict:=none,data:=.fields ([head,.ref L,.none,rawInt L,.none] ++ (if pl.isEmpty then List.replicate 6 Value.none else pl)).toArray }) (Obj.mapFields (·.setIfInBounds 1 (Value.ref h1.objs.size))) (Nat.ne_of_lt lt)).trans (Heap.get?_push_size h1 rfl)
 refine wpAny_setField (Heap.get?_push_of_some _ e1) hd hsz (h _ h1.objs.size _ _ ?_ ?_ hT rfl ?_ (Nat.ne_of_gt lt))
 ·exact cb.upd (cb.push ⟨oe,vs,e1,hd,h2⟩ _) (.inr (by decide))
 ·exact ⟨_,_,Heap.get?_update_self _ (Heap.get?_push_of_some _ e1) (Obj.isFreed_of_fields (Obj.data_mapFields hd _)),Obj.data_mapFields hd _,by simp [hsz]⟩
 ·simp only [List.size_toArray,List.length_append,List.length_cons,List.length_nil]; omega
theorem sH {Q:Unit->Shared->Prop} {oe oT:Obj} {vs ts:Array Value} {T:Addr} {fl:Option Addr} (x:cb s.heap e) (he:s.heap.get? e=some oe) (hd:oe.data=.fields vs) (h1:vs[1]?=some (.ref T)) (hT:s.heap.get? T=some oT) (CY:oT.data=.fields ts) (hz:3 < ts.size)
  (h:∀ h',cb h' e->Q () { s with heap:=h' }):wpAny M A (setFlight (.ref e) fl) Q E s:=by
 unfold setFlight
 refine wpAny_bind (wpAny_field he hd h1 ?_)
 rw [if_pos (show (Value.ref T != Value.none)=true from by simp)]
 exact wpAny_setField hT CY hz (h _ (x.upd (.inr (by decide))))
theorem uT {Q:Unit->Shared->Prop} (jV:A.frames=some (env :: outer)) (hf:env.frame=some L) (qd:Heap.FlyingW base (env :: outer) e cls a0 s.heap) (x:cb s.heap e)
  (h:∀ h' T oT ts,cb h' e->(∃ o ws,h'.get? e=some o /\ o.data=.fields ws /\ ws[1]?=some (.ref T))->h'.get? T=some oT->oT.data=.fields ts->3 < ts.size->T≠e->Q () { s with heap:=h' }):wpAny M A (noteFrame (.ref e) env) Q E s:=by
 obtain ⟨f1,f2,hl,oe,vs,T,oT,ts,he,_,hd,h1,ZJ,WQ,hT,CY,h3⟩:=qd
 obtain ⟨o',fs,tW,Bk,h2⟩:=id x
 rw [he] at tW; cases tW
 rw [hd] at Bk; cases Bk
 unfold noteFrame
 simp only [hf]
 refine wpAny_bind (wpAny_field he hd h1 ?_)
 rw [if_pos (show (Value.ref T != Value.none)=true from by simp)]
 refine wpAny_bind (wpAny_field hT CY h3 ?_)
 rw [if_neg (show ¬ ((Value.none == rawInt L)=true) from by simp [rawInt])]
 refine wpAny_bind (wpAny_setField hT CY (Array.getElem?_eq_some_iff.mp h3).1 ?_)
 have ot:∀ b,b≠T->(s.heap.update T (Obj.mapFields (·.setIfInBounds 3 Value.none))).get? b=s.heap.get? b:=fun b hb=>Heap.get?_update_other _ _ (Ne.symm hb)
 exact rC jV (hl.of_keeps fun b o hb JN=>⟨o,(ot b fun q=>by rw [q,hT] at hb; cases hb; exact JN ts CY).trans hb,rfl⟩) hf ((ot e (Ne.symm WQ)).trans he) hd (Array.getElem?_eq_some_iff.mp h1).1 h2 h
theorem xj {Q:Unit->Shared->Prop} (jV:A.frames=some (env :: outer)) (hf:env.frame=some L) (qd:Heap.FlyingW base (env :: outer) e cls a0 s.heap) (x:cb s.heap e) (h:∀ h',cb h' e->Q () { s with heap:=h' }):wpAny M A (leaving env (.ref e)) Q E s:=by
 unfold leaving
 refine wpAny_bind (uT jV hf qd x fun h' T oT ts x' ⟨o,ws,k1,k2,k3⟩ k4 k5 k6 _=>?_)
 exact sH (s:={ s with heap:=h' }) x' k1 k2 k3 k4 k5 k6 fun h2 x2=>h h2 x2
theorem CZ {h0:Heap} {args:List Value} {Q:Unit->Shared->Prop} (jV:A.frames=some (env :: outer)) (hf:env.frame=some L) (hl:h0.FunFrames base (env :: outer)) (hx:Heap.MadeExcOf h0 s.heap e cls args) (h:∀ h',cb h' e->Q () { s with heap:=h' }):wpAny M A (leaving env (.ref e)) Q E s:=by
 obtain ⟨t,he,_,_⟩:=hx.there
 unfold leaving noteFrame
 simp only [hf]
 refine wpAny_bind (wpAny_bind (wpAny_field he rfl (x:=Value.none) rfl ?_))
 rw [if_neg (by decide)]
 refine rC jV (hl.of_keeps fun b o hb _=>⟨o,hx.keeps b o hb,rfl⟩) hf he rfl (Nat.lt_of_lt_of_le (show 1 < 6 by decide) (Nat.le_refl _)) rfl fun h' T oT ts x' ⟨o,ws,k1,k2,k3⟩ k4 k5 k6 _=>?_
 exact sH (s:={ s with heap:=h' }) x' k1 k2 k3 k4 k5 k6 fun h2 x2=>h h2 x2
theorem AJ {Q:Unit->Shared->Prop} (jV:A.frames=some (env :: outer)) (hf:env.frame=some L) (qd:Heap.FlyingW base (env :: outer) e cls a0 s.heap) (x:cb s.heap e)
  (hQ:∀ h',Heap.HeldW base (env :: outer) e cls a0 L h'->cb h' e->s.heap.UpToSlots h'->Q () { s with heap:=h' }):wpAny M A (noteFrame (.ref e) env) Q E s:=
 wpAny_mono (iF (wpAny_looks_onW (E:=fun _ _=>False) (Q:=fun _ s2=>∃ h2,s2={ s with heap:=h2 } /\ Heap.HeldW base (env :: outer) e cls a0 L h2 /\ s.heap.UpToSlots h2) jV hf qd fun h2 k1 k2=>⟨h2,rfl,k1,k2⟩)
  (uT (E:=fun _ _=>False) (Q:=fun _ s2=>cb s2.heap e) jV hf qd x fun _ _ _ _ k _ _ _ _ _=>k)) (fun _ s2 ⟨⟨h2,e2,k1,k2⟩,nc⟩=>by subst e2; exact hQ h2 k1 nc k2) fun _ _ z=>z.1.elim
theorem C0 {fl:Value} {l:List Env} {Q:Unit->Shared->Prop} (ht:s.heap.TracedAtW base e cls a0 fl) (x:cb s.heap e) (h:∀ h',cb h' e->Q () { s with heap:=h' }):wpAny M A (setFlight (.ref e) none) Q E s:=by
 obtain ⟨oe,vs,T,oT,ts,he,_,hd,h1,_,_,hT,CY,h3⟩:=ht
 exact sH x he hd h1 hT CY (Array.getElem?_eq_some_iff.mp h3).1 h
theorem JO {l:List Env} {Q:Unit->Shared->Prop} (hh:Heap.HeldW base l e cls a0 L s.heap) (x:cb s.heap e) (hQ:∀ h',Heap.FlyingW base l e cls a0 h'->cb h' e->s.heap.UpToSlots h'->Q () { s with heap:=h' }):wpAny M A (setFlight (.ref e) none) Q E s:=
 wpAny_mono (iF (wpAny_landsW (E:=fun _ _=>False) (Q:=fun _ s2=>∃ h2,s2={ s with heap:=h2 } /\ Heap.FlyingW base l e cls a0 h2 /\ s.heap.UpToSlots h2) hh fun h2 k1 k2=>⟨h2,rfl,k1,k2⟩)
  (C0 (E:=fun _ _=>False) (l:=l) (Q:=fun _ s2=>cb s2.heap e) hh.2.2.2 x fun _ k=>k)) (fun _ s2 ⟨⟨h2,e2,k1,k2⟩,nc⟩=>by subst e2; exact hQ h2 k1 nc k2) fun _ _ z=>z.1.elim
theorem sI {l:List Env} {Q:Unit->Shared->Prop} (hh:Heap.FlyingW base l e cls a0 s.heap) (x:cb s.heap e) (hQ:∀ h',Heap.FlyingW base l e cls a0 h'->cb h' e->s.heap.UpToSlots h'->Q () { s with heap:=h' }):wpAny M A (setFlight (.ref e) none) Q E s:=
 wpAny_mono (iF (lands_againW (E:=fun _ _=>False) (Q:=fun _ s2=>∃ h2,s2={ s with heap:=h2 } /\ Heap.FlyingW base l e cls a0 h2 /\ s.heap.UpToSlots h2) hh fun h2 k1 k2=>⟨h2,rfl,k1,k2⟩)
  (C0 (E:=fun _ _=>False) (l:=l) (Q:=fun _ s2=>cb s2.heap e) hh.2.2.2.at x fun _ k=>k)) (fun _ s2 ⟨⟨h2,e2,k1,k2⟩,nc⟩=>by subst e2; exact hQ h2 k1 nc k2) fun _ _ z=>z.1.elim
end
theorem cF.there {P:Program} {w:World} {H:Hp} {h:Heap} {a:Addr} {o:HO} (x:cF P w H h a o):∃ ob,h.get? a=some ob:=by
 induction o with
 | lst xs=>obtain ⟨_,_,_,_,e⟩:=x; exact ⟨_,e⟩
 | tup xs=>obtain ⟨_,_,_,o,e,_⟩:=x; exact ⟨_,e⟩
 | dK aK=>obtain ⟨_,_,_,_,o,es,ep,e,_⟩:=x; exact ⟨_,e⟩
 | dT aK=>obtain ⟨_,_,_,_,o,es,ep,e,_⟩:=x; exact ⟨_,e⟩
 | set S n=>obtain ⟨_,_,_,_,e,_⟩:=x; exact ⟨_,e⟩
 | ins C dx fs=>obtain ⟨_,_,_,e,_⟩:=x; exact ⟨_,e⟩
 | own y=>exact x
 | xd fs=>obtain ⟨_,⟨o,es,ep,e,_⟩,_⟩:=x; exact ⟨_,e⟩
 | met f y=>exact ⟨_,x⟩
 | NA lo hi=>obtain ⟨_,_,_,e⟩:=x; exact ⟨_,e⟩
 | qe ob u ih=>exact ⟨_,x.1⟩
 | G4 ps=>exact ⟨_,x⟩
 | ext φ=>exact x.2.1
def K7 (g:Heap) (l:List Env) (H:Hp) (B:Heap):Prop:=∀ b,b∉mi l->(H b≠none \/ ∃ o0,g.get? b=some o0)->∃ o,B.get? b=some o
theorem K7.at {g h B:Heap} {l:List Env} {H:Hp} (c:K7 g l H B) (st:B.StaysIn h) {b:Addr} {o:Obj} (q:h.get? b=some o) (n:b∉mi l) (i:H b≠none \/ ∃ o0,g.get? b=some o0):B.get? b=some o:=by
 obtain ⟨o',e⟩:=c b n i
 have:=st b o' e
 rw [q] at this
 cases this
 exact e
theorem xl {l:List Env} {H H1:Hp} {g h h' B base:Heap} (u:Un (mi l) [] H H1 g h) (c:K7 g l H1 B) (st:B.StaysIn h) (qj:B.StaysIn h') (up:h.UpToSlots h') (fr:h.FunFrames base l):Un (mi l) [] H H1 g h' where
 keep:=fun b o q n hb hx=>qj b o (c.at st (u.keep b o q n hb hx) hb (.inr ⟨_,q⟩))
 slot:=fun b o q n hb hx=>by
  obtain ⟨sl,e⟩:=u.slot b o q n hb hx
  obtain ⟨_,o1,ml,JN⟩:=fr.mem hb
  rw [e] at ml
  cases ml
  obtain ⟨KJ,e'⟩:=up b _ e JN
  exact ⟨KJ,e'⟩
 free:=u.free
 there:=fun b o q hx=>by
  by_cases hb:b∈mi l
  ·obtain ⟨_,o1,ml,JN⟩:=fr.mem hb
   obtain ⟨KJ,e'⟩:=up b _ ml JN
   exact ⟨_,e'⟩
  ·obtain ⟨o',e⟩:=u.there b o q hx
   exact ⟨o',qj b o' (c.at st e hb (.inr ⟨_,q⟩))⟩
 mm:=u.mm
 lu:=u.lu
 mn:=u.mn
theorem sJ {P:Program} {w:World} {l:List Env} {H:Hp} {g h h' B:Heap} (x:ka P w H h) (c:K7 g l H B) (st:B.StaysIn h) (qj:B.StaysIn h') (nf:∀ b∈mi l,H b=none):ka P w H h':=fun a o e=>by
 refine (x a o e).nG (fun b u hb q=>?_) (fun _ q=>q) fun _ _ q=>q
 have ht:H b≠none:=by
  rcases hb with rfl | hb
  ·rw [e]; exact fun z=>nomatch z
  ·rw [hb]; exact fun z=>nomatch z
 exact qj b u (c.at st q (fun z=>ht (nf b z)) (.inl ht))
def t4 (P:Program) (w:World):Bl:=fun outer H s E e s'=>∃ (a t C:Addr) (B:Heap) (H1:Hp),e=.ref a /\ s'.os=s.os /\ AllBare s'.gens /\ Un (mi outer) [] H H1 s.heap s'.heap /\ ka P w H1 s'.heap /\
 s.heap.get? a=none /\ H1 a=none /\ K7 s.heap outer H1 B /\ Heap.FlyingW B outer a (.ref C) (.ref t) s'.heap /\ cb s'.heap a /\ E (.ref C) none H1
section
variable {P:Program} {w:World} {K:PySem.W.Frag} {mg:Str->Option Value} {base:Heap} {N:List Str} {qual:Str} {scope:Scope} {f:Addr} {cd:Value} {A:Around} {outer:List Env} {s:Shared} {H:Hp} {E:XK}
theorem Inv.tracked {X:Cx} {pins:List (Addr×Obj)} {σ:St} {H1:Hp} {s1:Shared} (I:Inv X pins σ H1 s1) {b:Addr} (n:H1 b≠none):∃ o,s1.heap.get? b=some o:=by
 cases q:H1 b with
 | none=>exact absurd q n
 | some o=>exact (I.bE b o q).there
theorem FN {pins:List (Addr×Obj)} {σ:St} {H1:Hp} {s1:Shared} {h':Heap} {a C:Addr} {vs:List Value} (I:Inv (fZ (t4 P w) P w K mg base N qual scope f cd A outer s H E) pins σ H1 s1)
  (hx:Heap.MadeExcOf s1.heap h' a (.ref C) vs) (hE:E (.ref C) none H1):(fZ (t4 P w) P w K mg base N qual scope f cd A outer s H E).xe (.ref a) { s1 with heap:=h' }:=by
 have st:(hideAll s1.heap (mi (envOfC qual scope s.heap.objs.size f cd :: outer))).StaysIn s1.heap:=fun b o q=>of_hideAll _ q
 have xm:∀ b,b∉mi outer->(H1 b≠none \/ ∃ o0,s.heap.get? b=some o0)->∃ o,(hideAll s1.heap (mi (envOfC qual scope s.heap.objs.size f cd :: outer))).get? b=some o:=fun b nb i=>by
  have hb:b∉mi (envOfC qual scope s.heap.objs.size f cd :: outer):=fun z=>by
   rcases List.mem_cons.mp (I.fQ b z) with e | z
   ·rcases i with i | ⟨o0,i⟩
    ·exact i (by rw [e]; exact I.free)
    ·exact absurd (Nat.lt_of_lt_of_le (Heap.lt_size i) (by rw [e]; exact I.ok.above)) (Nat.lt_irrefl _)
   ·exact nb z
  have ex:∃ o,s1.heap.get? b=some o:=by
   rcases i with i | ⟨o0,i⟩
   ·exact I.tracked i
   ·exact I.base.there b o0 i (fun z=>nomatch z)
  obtain ⟨o,e⟩:=ex
  exact ⟨o,hideAll_get _ e hb⟩
 have fh:=funFrames_hide I.stack fun env he b hb=>List.mem_filterMap.mpr ⟨env,he,hb⟩
 refine wpAny_mono (iF (wpAny_leaves_madeW (E:=fun _ _=>False) (Q:=fun _ s2=>∃ h2 t,s2={ s1 with heap:=h2 } /\ Heap.FlyingW (hideAll s1.heap (mi (envOfC qual scope s.heap.objs.size f cd :: outer))) outer a (.ref C) (.ref t) h2 /\ Heap.UpToSlots h' h2)
  (h:=s1.heap) I.ok.frames rfl st fh hx fun h2 t zb _ _ up=>⟨h2,t,rfl,zb,up⟩) (CZ (E:=fun _ _=>False) (Q:=fun _ s2=>cb s2.heap a) I.ok.frames rfl fh hx fun _ x=>x)) (fun _ s2 ⟨⟨h2,t,e2,zb,up⟩,nc⟩=>?_) fun _ _ z=>z.1.elim
 subst e2
 have Py:s1.heap.UpToSlots h2:=(Heap.UpToSlots.of_keeps hx.keeps).trans up
 refine ⟨a,t,C,_,H1,rfl,I.os,I.bare,xl I.base xm st zb.1 Py I.gW,sJ I.bE xm st zb.1 (fun b hb=>?_),?_,?_,xm,zb,nc,hE⟩
 ·obtain ⟨_,o,ho,_⟩:=I.ok.gW.mem hb
  exact I.base.free b o ho (I.ok.wg b hb) fun z=>nomatch z
 ·cases q:s.heap.get? a with
  | none=>rfl
  | some o=>
    obtain ⟨o',e⟩:=I.base.there a o q (fun z=>nomatch z)
    rw [hx.new] at e; cases e
 ·cases q:H1 a with
  | none=>rfl
  | some o=>
    obtain ⟨o',e⟩:=I.tracked (b:=a) (by rw [q]; exact fun z=>nomatch z)
    rw [hx.new] at e; cases e
theorem xn:ku (t4 P w) (fZ (t4 P w) P w K mg base N qual scope f cd A outer s H E) E:=by
 rintro pins σ H0 s0 e s' I ⟨a,t,C,B,H1,rfl,os,bare,un,bE,na,ta,NY,zb,Pz,hE⟩
 have I':=I.Bw (ch:=[]) os un bE bare (fun b z=>nomatch z)
 have xm:K7 s.heap outer H1 B:=fun b nb i=>by
  refine NY b (fun z=>?_) ?_
  ·rcases List.mem_cons.mp (I.fQ b z) with e | z
   ·rcases i with i | ⟨o0,i⟩
    ·exact i (by rw [e]; exact I'.free)
    ·exact absurd (Nat.lt_of_lt_of_le (Heap.lt_size i) (by rw [e]; exact I.ok.above)) (Nat.lt_irrefl _)
   ·exact nb z
  ·rcases i with i | ⟨o0,i⟩
   ·exact .inl i
   ·exact .inr (I.base.there b o0 i fun z=>nomatch z)
 refine wpAny_mono (iF (wpAny_leaves_onW (E:=fun _ _=>False) (Q:=fun _ s2=>∃ h2,s2={ s' with heap:=h2 } /\ Heap.FlyingW B outer a (.ref C) (.ref t) h2 /\ s'.heap.UpToSlots h2) I.ok.frames rfl zb fun h2 uU up=>⟨h2,rfl,uU,up⟩)
  (xj (E:=fun _ _=>False) (Q:=fun _ s2=>cb s2.heap a) I.ok.frames rfl zb Pz fun _ x=>x)) (fun _ s2 ⟨⟨h2,e2,uU,up⟩,nc⟩=>?_) fun _ _ z=>z.1.elim
 subst e2
 refine ⟨a,t,C,B,H1,rfl,I'.os,I'.bare,xl I'.base xm zb.1 uU.1 up I'.gW,sJ I'.bE xm zb.1 uU.1 (fun b hb=>?_),?_,ta,xm,uU,nc,hE⟩
 ·obtain ⟨_,o,ho,_⟩:=I'.ok.gW.mem hb
  exact I'.base.free b o ho (I'.ok.wg b hb) fun z=>nomatch z
 ·cases q:s.heap.get? a with
  | none=>rfl
  | some o=>
    obtain ⟨o',e⟩:=I.base.there a o q (fun z=>nomatch z)
    rw [na] at e; cases e
structure JP (K:PySem.W.Frag) (mg:Str->Option Value) (x:Str) (C:Addr) (bm tl:List Value) (newId:String):Prop where
 bound:mg x=some (.ref C)
 obj:∃ (n:Addr) (nm q:Str) (bs:List Value) (hdct:Bool) (sn:List Str) (sub:List Value) (ab:Bool) (col:Option Bool) (dd:Option Addr) (k0 k1 k2 k3 k5:Option Value) (mN:Str->Option Value),
  mN "__init__"=none /\ ∀ h:Heap,K.In h->h.get? C=some (excClassObj nm q C n bs tl hdct sn sub ab col dd k0 k1 k2 k3 k5 newId) /\ h.Ns n mN /\ OwnTail h bm tl
theorem C1 {x:Str} {C:Addr} {bm tl PB:List Value} {newId PC xo PD B Bn:String} {lU:Expr} {rest:List Expr} {np cM pos:Pos} {t:TA} (hC:JP K mg x C bm tl newId) (Fn:ExcBaseFacts Bn newId PD PB) (PH:bm.contains (.type Bn)=true)
  (FB:ExcBaseFacts B PC xo bm) (ha:PA (fZ (t4 P w) P w K mg base N qual scope f cd A outer s H E) (lU :: rest) t) (hg:Gl (fZ (t4 P w) P w K mg base N qual scope f cd A outer s H E) x:=by rfl)
  (he:starEach (lU :: rest) (envOfC qual scope s.heap.objs.size f cd)=(false,eval lU (envOfC qual scope s.heap.objs.size f cd)) :: starEach rest (envOfC qual scope s.heap.objs.size f cd):=by rfl)
  (wD:(backTo cM (starEach rest (envOfC qual scope s.heap.objs.size f cd))).any (·.1)=false:=by rfl) (hd:(x == ("__debug__":Str))=false:=by decide):
  PS (fZ (t4 P w) P w K mg base N qual scope f cd A outer s H E) (.Raise (some (.Call (.Name x np) (lU :: rest) [] cM)) none pos) (fun _ σ H0=>t σ H0 fun vs H1=>vs.length<=sizeLine /\ E (.ref C) none H1):=by
 intro pins s1 σ H1 D I h
 obtain ⟨n,nm,q,bs,hdct,sn,sub,ab,col,dd,k0,k1,k2,k3,k5,mN,HP,all⟩:=hC.obj
 obtain ⟨_,_,T⟩:=all _ I.v5
 refine wpAny_Raise_call_subU (C:=C) (nm:=nm) (q:=q) (N:=n) (bs:=bs) (bm:=tl) (hdct:=hdct) (sn:=sn) (sub:=sub) (ab:=ab) (col:=col) (dd:=dd) (k0:=k0) (k1:=k1) (k2:=k2) (k3:=k3) (k5:=k5)
  Fn PH FB (mN:=mN) (T.hasType FB.hasBase) (I.ok.hd rfl) ?_ HP (ly I hg hC.bound ⟨rfl,?_⟩ hd)
 ·show (backTo cM (starEach (lU :: rest) (envOfC qual scope s.heap.objs.size f cd))).any (·.1)=false
  rw [he]; show (false || (backTo cM (starEach rest (envOfC qual scope s.heap.objs.size f cd))).any (·.1))=false; rw [wD]; rfl
 ·show wpAny _ _ (evalArgs (.ref C) true (backTo cM (starEach (lU :: rest) (envOfC qual scope s.heap.objs.size f cd))) []) _ _ s1
  have hp:=ha cM pins s1 σ H1 _ I h
  have KQ:wpAny (model P w) (A.deeper (envOfC qual scope s.heap.objs.size f cd)) (spliced (backTo cM (starEach (lU :: rest) (envOfC qual scope s.heap.objs.size f cd)))) _ _ s1:=hp
  rw [he] at KQ ⊢
  refine Calls.evalArgs_plain (wpAny_mono KQ (fun us s2 ⟨vs,H2,I2,r2,hz,hE⟩=>⟨rfl,by show us.length<=_; rw [<- r2.length]; exact hz,(all _ I2.v5).1,(all _ I2.v5).2.1,(all _ I2.v5).2.2,fun h' e hm=>FN I2 hm hE⟩) fun _ _ y=>y)
end
abbrev Cx.EJ (X:Cx) (a:Addr):Cx:={ X with A:=X.A.mark (some (.ref a)),calm:=false,xe:=fun _ _=>False }
theorem Cx.Ok.EJ {X:Cx} (ok:X.Ok) (a:Addr):(X.EJ a).Ok:=
 ⟨ok.mod,ok.kind,ok.glob,ok.blt,ok.above,ok.inj,ok.has,ok.Bv,(fun z=>nomatch z),ok.frames,ok.EC,ok.G5,ok.bs,ok.we,ok.nH,ok.qf,ok.gW,ok.wg⟩
theorem Inv.EJ {X:Cx} {pins:List (Addr×Obj)} {σ:St} {H:Hp} {s:Shared} (I:Inv X pins σ H s) (a:Addr):Inv (X.EJ a) pins σ H s:=⟨I.ok.EJ a,I.os,I.bare,I.base,I.loc,I.cell,I.free,I.eA,I.pin,I.bE,I.len⟩
theorem Inv.PJ {X:Cx} {pins:List (Addr×Obj)} {σ:St} {H:Hp} {s:Shared} {a:Addr} (I:Inv (X.EJ a) pins σ H s) (ok:X.Ok):Inv X pins σ H s:=⟨ok,I.os,I.bare,I.base,I.loc,I.cell,I.free,I.eA,I.pin,I.bE,I.len⟩
theorem Inv.JQ {X:Cx} {pins:List (Addr×Obj)} {σ bM:St} {H0 H1:Hp} {s0 s1:Shared} {a:Addr} {o:HO} (I:Inv X pins σ H1 s1) (I0:Inv X pins bM H0 s0) (na:s0.heap.get? a=none) (ta:H1 a=none) (new:cF X.prog X.w (upd H1 a o) s1.heap a o):
  Inv X pins σ (upd H1 a o) s1:=by
 have ne:∀ b ob,s0.heap.get? b=some ob->b≠a:=fun b ob q e=>by rw [e,na] at q; cases q
 have nt:∀ b u,H1 b=some u->b≠a:=fun b u q e=>by rw [e,ta] at q; cases q
 have nL:X.env.locals≠a:=by
  obtain ⟨m,⟨ol,_,_,e,_⟩,_⟩:=I0.loc
  exact ne _ _ e
 refine ⟨I.ok,I.os,I.bare,⟨I.base.keep,I.base.slot,fun b ob q n hx=>?_,I.base.there,fun b xs q=>?_,fun b ob u q=>?_,fun b ps q=>?_⟩,I.loc,I.cell,?_,fun x c e=>?_,fun p hp=>?_,fun b u q=>?_,I.len⟩
 ·obtain ⟨o',e⟩:=I0.base.there b ob q hx
  rw [aI (ne b o' e)]; exact I.base.free b ob q n hx
 ·have:=I.base.mm b xs q
  rw [aI (nt _ _ this)]; exact this
 ·have:=I.base.lu b ob u q
  rw [aI (nt _ _ this)]; exact this
 ·obtain ⟨more,this⟩:=I.base.mn b ps q
  exact ⟨more,by rw [aI (nt _ _ this)]; exact this⟩
 ·rw [aI nL]; exact I.free
 ·obtain ⟨v,oc,e1,_⟩:=I0.cell x c e
  rw [aI (ne _ _ e1)]; exact I.eA x c e
 ·obtain ⟨e,n,r1,r2,r3⟩:=I.pin p hp
  exact ⟨e,by rw [aI (ne _ _ (I0.pin p hp).1)]; exact n,r1,r2,r3⟩
 ·by_cases hb:b=a
  ·subst hb; rw [bw] at q; cases q; exact new
  ·rw [aI hb] at q
   refine (I.bE b u q).nG (fun _ _ _ z=>z) (fun c z=>by rw [aI (nt _ _ z)]; exact z) fun c xs z=>z.ne (by rcases z with z | ⟨_,z⟩ <;> exact nt _ _ z)
theorem Inv.forget {X:Cx} {pins:List (Addr×Obj)} {σ:St} {H:Hp} {s:Shared} {h':Heap} {tk:Nat} {m:Str->Option Value} (I:Inv X pins σ H s) (hn:h'.Ns X.env.locals m) (hs:Heap.SameBut X.env.locals s.heap h'):
  Inv X pins (List.replicate X.N.length none) H { s with heap:=h',toks:=tk }:=by
 have ED:=I.ED
 have lt:∀ b o,X.eJ.heap.get? b=some o->b≠X.env.locals:=fun b o e=>Nat.ne_of_lt (Nat.lt_of_lt_of_le (Heap.lt_size e) I.ok.above)
 refine ⟨I.ok,I.os,I.bare,⟨fun b o e n hb hx=>(hs.2 b (lt b o e)).trans (I.base.keep b o e n hb hx),fun b o e n hb hx=>?_,I.base.free,fun b o e hx=>?_,I.base.mm,I.base.lu,I.base.mn⟩,⟨m,hn,fun j y v e1 e2 _=>?_⟩,fun y c e=>?_,I.free,I.eA,fun p hp=>?_,fun b u q=>?_,by simp⟩
 ·obtain ⟨sl,e1⟩:=I.base.slot b o e n hb hx
  exact ⟨sl,(hs.2 b (lt b o e)).trans e1⟩
 ·obtain ⟨o',e1⟩:=I.base.there b o e hx
  exact ⟨o',(hs.2 b (lt b o e)).trans e1⟩
 ·rw [List.getElem?_replicate] at e2
  split at e2 <;> cases e2
 ·obtain ⟨w',z⟩:=I.cell y c e
  exact ⟨w',z.sameBut hs (ED y c e)⟩
 ·obtain ⟨e,n,ne,nf,d⟩:=I.pin p hp
  exact ⟨(hs.2 p.1 ne).trans e,n,ne,nf,d⟩
 ·refine (I.bE b u q).nG (fun c w' hc z=>(hs.2 c ?_).trans z) (fun _ z=>z) fun _ _ z=>z
  rintro rfl
  rcases hc with e | hc
  ·rw [<- e,I.free] at q; cases q
  ·rw [I.free] at hc; cases hc
section
variable {X:Cx} {k:Nat} {f:Addr} {fd:FuncData} {ps:List Str} {sp:Sp} {g T n:Str} {gp cM WR tp AK pos:Pos} {e:Expr} {es:List Expr} {ta:TA} {JR:Stmt} {C3:List Stmt} {i:Nat} {Tv:Value} {ts:Addr->TS}
end
end L2
namespace L2
open PySem PySem.Spec PySem.W PyProof.Rows PySem.Builtin PySem.Builtin.ObjectAttr PySem.Builtin.Getset_descriptor
section
variable {prog:Program} {w:World} {A:Around} {E:Value->Shared->Prop} {h:Heap} {g:Array GenState} {d:Drawn} {t:Nat} {os:OsState} {a C:Addr} {o:Obj} {K:Frag}
theorem FO {R:Result->Shared->Prop} (X:K.In h) (hx:h.get? a=some o) (hc:o.cls=.ref C) (hs:subIn K (.ref C) (.type "object")=some true) (hq:R (.ok (.ret (.ref C))) ⟨h,g,d,t,os⟩):
  codeAny (model prog w) A (.call (.builtin "getset_descriptor.__get__") ⟨[.builtin "object.__class__",.ref a,.ref C],[]⟩) R ⟨h,g,d,t,os⟩:=by
 have WS:(⟨h,g,d,t,os⟩:Shared).TypeIs (.builtin "object.__class__") "getset_descriptor":=F.typeOf_object_class
 have L1:Looks (model prog w) h (isSubtype (.ref C) (.type "object")) true:=looks_subIn X hs
 refine codeAny_call_builtin KF.slot_gs.plain KF.entry_gs (KF.slot_gs.check _ _ _ _ _ _ _ _ KF.type_class (KF.args_gs _ _ _) ?_)
 have L0:Looks (model prog w) h (typeOf (.ref a)) (.ref C):=by rw [<- hc]; exact (Looks.ld hx).andThen Looks.now
 unfold Builtin.«getset_descriptor.__get__» descrGet
 rw [dga_obj]
 refine wpAny_bind (wpAny_pure ?_)
 unfold descrGetter descrCheckInstance descrNameAndClass isInstance
 simp only [KF.owner_class]
 repeat lk
 refine ⟨Code.quiet_builtin _ (by decide +kernel),codeAny_builtin KF.entry_class ?_⟩
 unfold Builtin.«object.__class__» shownTypeOf
 repeat lk
 exact hq
theorem AL {tk:Tok} {Q:Fin->Shared->Prop} (X:K.In h) (hx:h.get? a=some o) (hc:o.cls=.ref C) (hs:subIn K (.ref C) (.type "object")=some true) (hf:findIn K (.ref C) "__class__"=some (some (.builtin "object.__class__"))) (hq:Q (.done (.ret (.ref C))) ⟨h,g,d,t,os⟩):
  wpAny (model prog w) A (Builtin.«object.__getattribute__» ⟨[.ref a,.str "__class__" tk],[]⟩) Q E ⟨h,g,d,t,os⟩:=by
 have WS:(⟨h,g,d,t,os⟩:Shared).TypeIs (.builtin "object.__class__") "getset_descriptor":=F.typeOf_object_class
 have f5:=F.typeOf_object_class
 have f6:=F.slot_gs_get.lookup
 have f7:=F.slot_gs_set.lookup
 have L1:Looks (model prog w) h (typeLookup (.ref C) "__class__") (some (.builtin "object.__class__")):=looks_findIn X hf
 repeat (any_goals (first | assumption | (with_reducible refine wpAny_loadPart_at hx ?_; rw [hc]) | with_reducible refine L1.at ?_ | wp_step))
 refine FO X hx hc hs ?_
 repeat (any_goals (first | assumption | wp_step))
theorem AM {M:Model} {HQ:Value} {Q:Unit->Shared->Prop} (X:K.In h) (hx:h.get? a=some o) (hc:o.cls=.ref C) (hs:subIn K (.ref C) (.type "BaseException")=some true) (hq:Q () ⟨h,g,d,t,os⟩):
  wpAny M A (checkBuiltinCall "BaseException.__getattribute__" ⟨[.ref a,HQ],[]⟩) Q E ⟨h,g,d,t,os⟩:=by
 have hk:builtinKind "BaseException.__getattribute__"=some .slot:=by decide +kernel
 have sL:splitId "BaseException.__getattribute__"=some ("BaseException","__getattribute__"):=by decide +kernel
 have L1:Looks M h (isSubtype (.ref C) (.type "BaseException")) true:=looks_subIn X hs
 have ha:=F.args_bexc_ga (.ref a) HQ
 simp only [checkBuiltinCall,hk,sL]
 refine wpAny_bind ?_
 unfold isInstance
 repeat (first | (with_reducible refine wpAny_loadPart_at hx ?_; rw [hc]) | with_reducible refine L1.at ?_ | wp_step)
 exact hq
theorem JS {tk:Tok} {Q:Value->Shared->Prop} (X:K.In h) (hx:h.get? a=some o) (hc:o.cls=.ref C) (hs:subIn K (.ref C) (.type "object")=some true) (kb:subIn K (.ref C) (.type "BaseException")=some true)
  (hf:findIn K (.ref C) "__class__"=some (some (.builtin "object.__class__"))) (PK:findIn K (.ref C) "__getattribute__"=some (some (.builtin "BaseException.__getattribute__"))) (MN:findIn K (.ref C) "__getattr__"=some none) (hq:Q (.ref C) ⟨h,g,d,t,os⟩):
  wpAny (model prog w) A (getAttrBy (.ref a) (.str "__class__" tk) false) Q E ⟨h,g,d,t,os⟩:=by
 have f3:=PySem.F.attrBase_ValueError.ga.bind (.ref a)
 have PL:(Value.builtin "BaseException.__getattribute__" == Value.builtin "object.__getattribute__")=false:=by decide +kernel
 have Vj:(onTheHeap (Value.ref C) && Value.builtin "BaseException.__getattribute__" == Value.builtin "object.__getattribute__")=false:=by rw [PL]; rfl
 have L1:Looks (model prog w) h (typeLookup (.ref C) "__getattribute__") (some (.builtin "BaseException.__getattribute__")):=looks_findIn X PK
 have L2:Looks (model prog w) h (typeLookup (.ref C) "__getattr__") none:=looks_findIn X MN
 repeat (any_goals (first | assumption | (with_reducible refine wpAny_loadPart_at hx ?_; rw [hc]) | with_reducible refine L1.at ?_ | with_reducible refine L2.at ?_ | wp_step))
 refine codeAny_call_builtin PySem.F.attrBase_ValueError.ga.plain F.entry_bexc_ga (AM X hx hc kb (AL X hx hc hs hf ?_))
 repeat (any_goals (first | assumption | wp_step))
theorem C4 {Q:Option Value->Shared->Prop} (X:K.In h) (hx:h.get? a=some o) (hc:o.cls=.ref C) (hs:subIn K (.ref C) (.type "object")=some true) (kb:subIn K (.ref C) (.type "BaseException")=some true)
  (hf:findIn K (.ref C) "__class__"=some (some (.builtin "object.__class__"))) (PK:findIn K (.ref C) "__getattribute__"=some (some (.builtin "BaseException.__getattribute__"))) (MN:findIn K (.ref C) "__getattr__"=some none) (hq:Q (some (.ref C)) ⟨h,g,d,t + 1,os⟩):
  wpAny (model prog w) A (getAttr? (.ref a) "__class__") Q E ⟨h,g,d,t,os⟩:=by
 unfold getAttr? getAttrBy?
 repeat (any_goals (first | assumption | with_reducible apply JS X hx hc hs kb hf PK MN | wp_step))
end
end L2
namespace L2
open PySem PySem.Spec PySem.W PyProof.Rows
structure C5 (K:Frag) (C:Addr):Prop where
 obj:∃ c d cd sl,K.lookup C=some ⟨c,d,.cls cd,sl⟩
 sO:subIn K (.ref C) (.type "object")=some true
 sB:subIn K (.ref C) (.type "BaseException")=some true
 fc:findIn K (.ref C) "__class__"=some (some (.builtin "object.__class__"))
 fg:findIn K (.ref C) "__getattribute__"=some (some (.builtin "BaseException.__getattribute__"))
 fn:findIn K (.ref C) "__getattr__"=some none
theorem uV {K:Frag} {a C:Addr} (c:C5 K C):KitX K (.ref a) (.ref C) (fun h=>∃ o,h.get? a=some o /\ o.cls=.ref C) where
 ty:=fun _ _ _ ⟨o,hx,hc⟩=>by rw [<- hc]; exact (Looks.ld hx).andThen Looks.now
 it:=fun _ _ X _=>by
  obtain ⟨c',d',WT,KJ,ho⟩:=c.obj
  intro A' Q' E' s' k q
  unfold isType loadHead
  exact wpAny_bind (wpAny_loadPart (k _ _ (X _ _ ho)) (wpAny_pure q))
 ne:=fun h tp dd its n sl X WU=>by
  obtain ⟨c',d',WT,KJ,ho⟩:=c.obj
  refine Bool.eq_false_iff.mpr fun q=>?_
  have e:C=tp:=Value.ref.inj (beq_iff_eq.mp q)
  subst e
  have z:=(X _ _ ho).symm.trans WU
  cases z
 ca:=fun {_ _ _ _ _ s} X ⟨o,hx,hc⟩ k=>by
  obtain ⟨h,g,d,t,os⟩:=s
  exact C4 X hx hc c.sO c.sB c.fc c.fg c.fn k
def PM (K:Frag):List V->Hp->VK->Prop:=fun vs H Q=>∃ a C cv b,vs=[.ref a,cv] /\ H a=some (Jc a C) /\ C5 K C /\ Q (.bl b) H /\
 ((∃ c,(∀ u,RelV cv u->u=c) /\ kitOne K (.ref C) c=some b) \/ ∃ tp NZ,cv=.ref tp /\ H tp=some (.tup NZ) /\ ∀ its,bf NZ its->kitAny K (.ref C) its=some b)
theorem AN {X:Cx}:dU X (.builtin "isinstance") (PM X.K):=by
 rintro pins s σ H vs us Q I r ⟨a,C,cv,b,rfl,ha,hc,q,h⟩
 have ⟨u1,u2,e,r1,r2⟩:∃ u1 u2,us=[u1,u2] /\ RelV (.ref a) u1 /\ RelV cv u2:=by
  cases r with
  | cons r1 r'=>cases r' with
    | cons r2 WV=>cases WV with
      | nil=>exact ⟨_,_,rfl,r1,r2⟩
 subst e
 cases (show u1=Value.ref a from r1)
 have hx:∃ o,s.heap.get? a=some o /\ o.cls=.ref C:=(I.bE a _ ha).1.1
 rcases h with ⟨c,PN,e⟩ | ⟨tp,NZ,rfl,ht,e⟩
 ·cases PN u2 r2
  exact kia_one (uV hc) I.v5 hx e (fun z=>nomatch z) fun tk=>⟨.bl b,H,I.tok tk,rfl,q⟩
 ·cases (show u2=Value.ref tp from r2)
  obtain ⟨_,its,rv,o,ho,iw,n,jo⟩:=(show cF X.prog X.w H s.heap tp (.tup NZ) from I.bE tp _ ht)
  obtain ⟨oc,od,ZK,wB⟩:=o
  cases iw
  cases jo
  exact kia_tup (uV hc) I.v5 hx ho (e its rv) (fun z=>nomatch z) fun tk=>⟨.bl b,H,I.tok tk,rfl,q⟩
structure g8 (k:Nat) (A:Around):Prop where
 dp:A.depth + 3 * k + 5 < recursionLimit
 un:A.units + 16 * k + 200 < cLine
theorem dq.markX {k:Nat} {A:Around} (r:dq k A) (v:Option Value):g8 k (A.mark v):=⟨r.dp,r.un⟩
theorem g8.mono {j k:Nat} {A:Around} (r:g8 k A) (h:j<=k):g8 j A:=⟨by have:=r.dp; omega,by have:=r.un; omega⟩
theorem g8.deeper {k:Nat} {A:Around} (r:g8 (k + 1) A) (env:Env):g8 k (A.deeper env):=
 ⟨by have:=r.dp; show A.depth + 1 + 3 * k + 5 < _; omega,by have:=r.un; show A.units + 3 + 16 * k + 200 < _; omega⟩
def PQ (P:Program) (w:World) (K:Frag) (mg:Str->Option Value) (base:Heap) (N:List Str) (qual:Str) (scope:Scope) (f:Addr) (cd:Value) (A:Around) (outer:List Env) (s:Shared) (H:Hp):Cx:=
 { fZ v8 P w K mg base N qual scope f cd A outer s H E0 with calm:=false,xe:=fun _ _=>False }
section
variable {P:Program} {w:World} {K:Frag} {mg:Str->Option Value} {base:Heap}
end
def zc (P:Program) (w:World) (K:Frag) (mg:Str->Option Value) (base:Heap) (k:Nat) (x:Str) (ps:List Str) (sp:Sp):Prop:=
 ∃ f fd,nI P w K mg base (t4 P w) k f fd ps sp /\ mg x=some (.ref f) /\ keepIn K (.ref f)=true /\ Binds K fd ps []
section
variable {P:Program} {w:World} {K:Frag} {mg:Str->Option Value} {base:Heap} {x:Str} {st:Stmt} {N ps:List Str} {k:Nat} {sp:Sp}
theorem Df.Vk (F:Df K mg x st ps) (S:aD N ps (ao st)) (len:∀ vs H Q E,sp vs H Q E->vs.length=ps.length)
  (lB:∀ (f:Addr) (bR:Value) (A:Around) (outer:List Env) (s:Shared) (H:Hp) (vs:List V) (Q:VK) (E:XK),dq k (A.deeper (envOfC x (ao st) s.heap.objs.size f bR))->sp vs H Q E->
   ∃ t,ji (fZ (t4 P w) P w K mg base N x (ao st) f bR A outer s H E) (cD st) t /\ t { nx:=fun _ H'=>Q .gU H',rt:=Q } (start N vs) H):zc P w K mg base (k + 1) x ps sp:=by
 obtain ⟨f,fd,F,m,b⟩:=F
 have kp:=F.kp
 obtain ⟨oc,od,kV,doc,pm,an,bR,ct,wB,rfl,lk,qh⟩:=F.ex
 exact ⟨f,_,Hi lk qh S len (lB f bR),m,kp,b⟩
end
set_option tactic.hygienic true in
theorem C6 {K:Frag} {mg:Str->Option Value} {x:Str} {C:Addr} {bm:List Value} {newId:String} (hm:mg x=some (.ref C)) (q:excIn K C bm newId=true):∃ tl,JP K mg x C bm tl newId:=by
 unfold excIn at q
 split at q
 ·rename_i dd cd sl ho
  split at q
  ·rename_i C' tl k0 k1 k2 k3 n k5 hr hs
   simp only [Bool.and_eq_true,beq_iff_eq,Bool.not_eq_true'] at q
   obtain ⟨⟨⟨⟨⟨e1,e2⟩,hdel⟩,ht⟩,bE⟩,HP⟩:=q
   subst e1 e2
   obtain ⟨nm,bs,mro,ns,qn,hd,sn,sub,ab,col,del⟩:=cd
   dsimp only at hr hdel bE HP
   subst hr hdel
   have WX:sl=#[k0,k1,k2,k3,some (.builtin n),k5]:=by
    obtain ⟨l⟩:=sl
    simp only at hs
    rw [hs]
   subst WX
   have K6:∃ c d es ep E4,K.lookup ns=some ⟨c,d,.dict es ep,E4⟩ /\ (es.all fun e=>match e.key with | .str _ _=>true | _=>false)=true:=by
    unfold nsOkIn at bE
    split at bE
    ·rename_i iw
     exact ⟨_,_,_,_,_,iw,bE⟩
    ·cases bE
   obtain ⟨c2,d2,NO,ZL,E4,BS,LV⟩:=K6
   refine ⟨tl,hm,ns,nm,qn,bs,hd,sn,sub,ab,col,dd,k0,k1,k2,k3,k5,nsFind NO,?_,fun h X=>⟨X _ _ ho,?_,tail_of_in X ht⟩⟩
   ·unfold nsIn at HP
    rw [BS] at HP
    dsimp only at HP
    split at HP
    ·cases HP
    ·rename_i he
     unfold nsFind findBy
     rw [<- Array.find?_toList,he]
     rfl
   ·have EI:h.Ns ns (h.nsMap ns):=.of_isNs (isNs_of_in X bE)
    obtain ⟨o,es,ep,h1,h2,h3,h4⟩:=EI
    rw [X _ _ BS] at h1
    cases h1
    cases h2
    exact ⟨_,_,_,X _ _ BS,rfl,h3,fun _=>rfl⟩
  ·cases q
 ·cases q
def qB:D->Option Str
 | .dict [(.none,.str c)]=>some c
 | _=>none
theorem j5 {d:D} {c:Str} (h:qB d=some c):d=mB c:=by
 unfold qB at h
 split at h
 ·cases h; rfl
 ·cases h
theorem nY {d:D} {r:List (D×D)} {aK:List (List Key×V)} {d':D} (k:((d,d') :: r).map (·.1)=aK.map (fun p=>PyData.tuple (p.1.map fJ))) (h:∀ l,d≠.tuple l):False:=by
 cases aK with
 | nil=>cases k
 | cons p q=>exact h _ (List.cons.inj k).1
theorem HR {K:Frag} {H:Hp} {v:V} {c:Str} (h:HD K H v (mB c)):False:=by
 unfold mB at h
 cases h with
 | mj _ k _=>exact nY k fun _ z=>nomatch z
def C7 (d:D) (r:Res):Res:=match qB d with
 | some _=>.rt d
 | none=>r
theorem rD {d:D} {r:Res} (h:qB d=none):C7 d r=r:=by unfold C7; rw [h]
theorem FP {c:Str} {r:Res}:C7 (mB c) r=.rt (mB c):=rfl
def qC (mg:Str->Option Value) (E:XK):Str->Hp->Prop:=fun c H=>∀ C,mg c=some (.ref C)->E (.ref C) none H
def xp (c:Str):DS->Option Res:=fun _=>some (.rt (mB c))
def EK (K:Frag) (mg:Str->Option Value) (n:Nat) (G:List D->Option D):Sp:=fun vs H Q E=>vs.length=n /\ ∃ A ds d,Ls A H /\ cy K (wo H A) vs ds /\ G ds=some d /\
 (∀ v H',az H H'->HD K (wo H' A) v d->Q v H') /\ ∀ c H',d=mB c->az H H'->qC mg E c H'
section
variable {P:Program} {w:World} {K:Frag} {mg:Str->Option Value} {base:Heap} {N ps:List Str} {x qual:Str} {st:Stmt} {scope:Scope} {f:Addr} {cd:Value} {A:Around} {outer:List Env} {s:Shared} {H:Hp} {E:XK} {O:List Nat} {k:Nat}
theorem uW {c:Str} {C:Addr} {b:Bool} {bm tl PB:List Value} {newId PC xo PD B Bn:String} {lU:Expr} {v:V} {np cM pos:Pos} (hC:JP K mg c C bm tl newId) (Fn:ExcBaseFacts Bn newId PD PB) (PH:bm.contains (.type Bn)=true) (FB:ExcBaseFacts B PC xo bm)
  (ha:PE (fZ (t4 P w) P w K mg base N qual scope f cd A outer s H E) lU (tC v)) (hg:Gl (fZ (t4 P w) P w K mg base N qual scope f cd A outer s H E) c:=by rfl)
  (he:starEach [lU] (envOfC qual scope s.heap.objs.size f cd)=[(false,eval lU (envOfC qual scope s.heap.objs.size f cd))]:=by rfl) (PR:starEach ([]:List Expr) (envOfC qual scope s.heap.objs.size f cd)=[]:=by rfl) (hd:(c == ("__debug__":Str))=false:=by decide):
  PS (fZ (t4 P w) P w K mg base N qual scope f cd A outer s H E) (.Raise (some (.Call (.Name c np) [lU] [] cM)) none pos) (tS K O (b,qC mg E) (xp c)):=
 (C1 hC Fn PH FB (bU ha df (by show starEach [lU] (envOfC qual scope s.heap.objs.size f cd)=(false,eval lU (envOfC qual scope s.heap.objs.size f cd)) :: starEach [] (envOfC qual scope s.heap.objs.size f cd); rw [he,PR])) hg (by rw [he,PR]) (by rw [PR]; rfl) hd).mono fun D σ H1 hh=>hh.e fun H0 U A0 δ r R F ed Q=>by
  cases ed
  exact ⟨by show 1<=sizeLine; decide,Q.2 c H1 rfl F.same C hC.bound⟩
theorem zd (O:List Nat) (g:DS->Option Res) (F:Df K mg x st ps) (S:aD N ps (ao st))
  (body:∀ (f:Addr) (bR:Value) (A:Around) (outer:List Env) (s:Shared) (H:Hp) (E:XK),dq k (A.deeper (envOfC x (ao st) s.heap.objs.size f bR))->ji (fZ (t4 P w) P w K mg base N x (ao st) f bR A outer s H E) (cD st) (tS K O (false,qC mg E) g))
  (hO:∀ i∈O,ps.length<=i:=by decide) {n m:Nat} (hN:N.length=n:=by rfl) (hP:ps.length=m:=by rfl):zc P w K mg base (k + 1) x ps (EK K mg m (ff n g)):=by
 subst hN hP
 refine F.Vk S (fun vs H Q E h=>h.1) (fun f bR A outer s H vs Q E hr h=>⟨_,body f bR A outer s H E hr,?_⟩)
 obtain ⟨hn,A',ds,d,al,hd,e,q,qx⟩:=h
 obtain ⟨r,e1,e2⟩:=bind1 e
 refine ⟨H,[],A',_,r,Rel.start al hd (fun i hi=>by have:=hO i hi; rw [<- hd.len,hn]; exact this),Fx.start al,e1,?_⟩
 cases r with
 | nx δ=>cases e2; exact fun U σ H' R F'=>q .gU H' F'.same .gU
 | rt d=>cases e2; exact ⟨fun v H' h=>by unfold iA at h; rw [if_neg Bool.false_ne_true] at h; exact q v H' h.1 h.2,fun c H' e s=>qx c H' e s⟩
 | bk _=>cases e2
 | ct _=>cases e2
end
def km (i:Nat) (g:DS->Option D):DS->Option Res:=fun δ=>(g δ).bind fun d=>some (C7 d (.nx (δ.set i (some d))))
section
variable {X:Cx} {O:List Nat} {E:XK} {k kk n i:Nat} {x:Str} {ps:List Str} {p pos:Pos} {e:Expr} {es:List Expr} {gr:DS->Option (List D)} {G:List D->Option D} {st:Stmt} {b:Bool}
theorem uX (F:zc X.prog X.w X.K X.mg X.base k x ps (EK X.K X.mg n G)) (hr:dq kk X.A) (hk:k<=kk) (hx:ku (t4 X.prog X.w) X E) (ha:PA X (e :: es) (oO X.K O gr)) (hg:Gl X x:=by rfl)
  (oC:(x == ("__debug__":Str))=false:=by decide) (he:starEach (e :: es) X.env=(false,eval e X.env) :: starEach es X.env:=by rfl) (js:(backTo pos (starEach es X.env)).any (·.1)=false:=by rfl):
  PE X (.Call (.Name x p) (e :: es) [] pos) (lA (EK X.K X.mg n G) [] E (oO X.K O gr)):=by
 obtain ⟨f,fd,F,m,kp,b⟩:=F
 exact rO F (hr.mono hk) hg m kp b .nil hx ha oC he js
set_option tactic.hygienic true in
theorem JT {K:Frag} {mg:Str->Option Value} {σ:St} {δ:DS} {H:Hp} {Q:VK} {U A0:List Addr} {d:D} (R:Rel K O U A0 σ δ H) (e:aC G n gr δ=some d) (qn:∀ v H',az H H'->HD K (wo H' (U ++ A0)) v d->Q v H')
  (qx:∀ c H',d=mB c->az H H'->qC mg E c H'):lA (EK K mg n G) [] E (oO K O gr) σ H Q:=by
 obtain ⟨ds,e1,e2⟩:=bind1 e
 split at e2
 ·rename_i hn
  refine ⟨U,A0,δ,ds,R,e1,fun vs H' s h=>?_⟩
  show EK K mg n G (vs ++ []) H' Q E
  rw [List.append_nil]
  exact ⟨by rw [h.len]; exact hn,U ++ A0,ds,d,(R.same s).al,h,e2,fun v H2 s2 h2=>qn v H2 (s.trans s2) h2,fun c H2 ed s2=>qx c H2 ed (s.trans s2)⟩
 ·cases e2
theorem ze (h:PS X st (mq (lA (EK X.K X.mg n G) [] E (oO X.K O gr)) (eX i))) (hi:i∉O:=by decide):PS X st (tS X.K O (b,qC X.mg E) (km i (aC G n gr))):=h.mono fun D σ H hh=>hh.e fun H0 U A0 δ r R F ed P=>by
 obtain ⟨d,e1,e2⟩:=bind1 ed
 have e3:=Option.some.inj e2
 refine JT R e1 (fun v H' s hv=>?_) (fun c H' hd s=>?_)
 ·cases hx:qB d with
  | some c=>rw [j5 hx] at hv; exact (HR hv).elim
  | none=>
    rw [rD hx] at e3
    subst e3
    exact P U _ H' ((R.same s).set hi hv) (F.grow s)
 ·subst hd
  rw [FP] at e3
  subst e3
  exact P.2 c H' rfl (F.same.trans s)
end
theorem uY {K:Frag} {b:Bool} {H0 H':Hp} {A0:List Addr} {v:V} {c:Str} (h:iA K b H0 A0 v (mB c) H'):False:=by
 unfold iA at h
 split at h
 ·obtain ⟨r,o,_,_,_,_,q⟩:=h
  cases q with
  | mj k _=>exact nY k fun _ z=>nomatch z
 ·exact HR h.2
abbrev Cx.tr (X:Cx) (iG:List (Addr×Obj)) (E:XK):Cx:={ X with pn:=X.pn ++ iG,xe:=fun v s1=>∃ σ H0 s0,Inv X iG σ H0 s0 /\ t4 X.prog X.w X.stack H0 s0 E v s1 }
section
variable {X:Cx} {pins iG:List (Addr×Obj)} {σ:St} {H:Hp} {s:Shared} {E:XK}
theorem Cx.Ok.tr (ok:X.Ok):(X.tr iG E).Ok:=
 ⟨ok.mod,ok.kind,ok.glob,ok.blt,ok.above,ok.inj,ok.has,ok.Bv,ok.hd,ok.frames,ok.EC,ok.G5,ok.bs,ok.we,ok.nH,ok.qf,ok.gW,ok.wg⟩
theorem Cx.Ok.xq (ok:(X.tr iG E).Ok):X.Ok:=
 ⟨ok.mod,ok.kind,ok.glob,ok.blt,ok.above,ok.inj,ok.has,ok.Bv,ok.hd,ok.frames,ok.EC,ok.G5,ok.bs,ok.we,ok.nH,ok.qf,ok.gW,ok.wg⟩
theorem Inv.tr (I:Inv X iG σ H s):Inv (X.tr iG E) [] σ H s:=⟨I.ok.tr,I.os,I.bare,I.base,I.loc,I.cell,I.free,I.eA,fun p hp=>I.pin p (by rw [List.append_nil] at hp; exact hp),I.bE,I.len⟩
theorem Inv.xq (I:Inv (X.tr iG E) pins σ H s):Inv X iG σ H s:=⟨I.ok.xq,I.os,I.bare,I.base,I.loc,I.cell,I.free,I.eA,fun p hp=>I.pin p (List.mem_append_left _ hp),I.bE,I.len⟩
theorem zf:ku (t4 X.prog X.w) (X.tr iG E) E:=fun _ σ H s _ _ I h=>⟨σ,H,s,I.xq,h⟩
end
abbrev C8 (a:Addr) (c:Str):D:=.dict [(.list [],.tuple [.int (a:Nat),.str c])]
def xr (gb:DS->Option Res) (hand:Str->Option D):DS->Option Res:=fun δ=>(gb δ).bind fun r=>match r with
 | .rt d=>(match qB d with
   | some c=>(hand c).bind fun d'=>some (.rt d')
   | none=>some (.rt d))
 | r=>some r
theorem Rel.JU {K:Frag} {O:List Nat} {A0:List Addr} {σ:St} {H1:Hp} {n i:Nat} {a C:Addr} {c:Str} (hl:σ.length=n) (hi:i < n) (hO:i∉O) (al:Ls A0 H1) (ta:H1 a=none) (EI:nsIn K mainGlobals c=some (some (.ref C))):
  Rel K O [] A0 (σ.set i (some (.ref a))) ((List.replicate n none).set i (some (C8 a c))) (upd H1 a (Jc a C)):=by
 have get:∀ (j:Nat) d,((List.replicate n (none:Option D)).set i (some (C8 a c)))[j]?=some (some d)->j=i /\ d=C8 a c:=fun j d q=>by
  by_cases hj:i=j
  ·subst hj
   rw [List.getElem?_set_self (by rw [List.length_replicate]; exact hi)] at q
   cases q
   exact ⟨rfl,rfl⟩
  ·rw [List.getElem?_set_ne hj] at q
   have:=List.mem_of_getElem? q
   rw [List.mem_replicate] at this
   exact absurd this.2 (fun z=>nomatch z)
 exact {
  len:=by rw [List.length_set,List.length_set,List.length_replicate]; exact hl
  fz:=fun j d _ q=>by
   obtain ⟨rfl,rfl⟩:=get j d q
   exact ⟨.ref a,List.getElem?_set_self (by rw [hl]; exact hi),.exc EI (by show wo (upd H1 a (Jc a C)) A0 a=_; rw [bp (fun z=>al.free ta z)]; exact bw)⟩
  ow:=fun j d hj q=>absurd hj (by rw [(get j d q).1]; exact hO)
  inj:=fun j k d e l hj _ _ q _ _ _=>absurd hj (by rw [(get j d q).1]; exact hO)
  al:=al.same (bI ta _) }
section
variable {X:Cx} {O:List Nat} {T n:Str} {Tv:Value} {tp AK pos:Pos} {body C3:List Stmt} {JR:Stmt} {gb:DS->Option Res} {gs:Addr->DS->Option Res} {hand:Str->Option D} {xk:Str->Hp->Prop} {i:Nat}
theorem JV {b:Bool} (hb:∀ iG E,ji (X.tr iG E) body (tS X.K O (b,qC X.mg E) gb)) (hs:∀ a,ji (X.EJ a) (JR :: C3) (tS X.K O (b,fun _ _=>True) (gs a)))
  (mz:∀ c d,hand c=some d->∃ C,nsIn X.K mainGlobals c=some (some (.ref C)) /\ X.mg c=some (.ref C) /\ exmOne X.K (.ref C) Tv=some true)
  (hh:∀ a c d,hand c=some d->gs a ((List.replicate X.N.length none).set i (some (C8 a c)))=some (.rt d)) (hT:X.mg T=some Tv) (hN:X.N.Nodup) (hi:X.N[i]?=some n:=by rfl) (WY:i∉O:=by decide)
  (hl:X.env.scope.names.lookup n=some .local:=by rfl) (PU:Gl X T:=by rfl) (Hb:X.stack=X.env :: X.outer:=by rfl) (jV:X.env.frame=some X.env.locals:=by rfl) (CY:(T == ("__debug__":Str))=false:=by decide):
  PS X (.Try body [.ExceptHandler (some (.Name T tp)) (some n) (JR :: C3) AK] [] [] pos) (tS X.K O (b,xk) (xr gb hand)):=by
 rintro pins s σ H D I ⟨PV,U,A0,δ,r,R,F,ed,P⟩
 obtain ⟨r0,e1,e2⟩:=bind1 ed
 refine wpAny_Try_except ?_
 refine wpAny_mono (hb pins (fun cv _ H2=>∃ c C,r0=.rt (mB c) /\ cv=.ref C /\ X.mg c=some (.ref C) /\ az PV H2) [] s σ H D I.tr ⟨PV,U,A0,δ,r0,R,F,e1,?_⟩) (fun fl s1 hq=>?_) ?_
 ·cases r0 with
  | nx δ'=>cases e2; exact P
  | bk δ'=>cases e2; exact P
  | ct δ'=>cases e2; exact P
  | rt d=>
    cases hx:qB d with
    | none=>
      simp only [hx] at e2
      cases e2
      exact ⟨P.1,fun c H' hd s=>by subst hd; cases hx⟩
    | some c=>
      have hd:=j5 hx
      subst hd
      exact ⟨fun v H' h=>(uY h).elim,fun c' H' hd s C hC=>⟨c',C,by rw [hd],rfl,hC,s⟩⟩
 ·cases fl with
  | next=>obtain ⟨bM,H',I',q⟩:=hq; exact wpAny_execs_nil ⟨bM,H',I'.xq,q⟩
  | brk=>obtain ⟨bM,H',I',q⟩:=hq; exact ⟨bM,H',I'.xq,q⟩
  | cont=>obtain ⟨bM,H',I',q⟩:=hq; exact ⟨bM,H',I'.xq,q⟩
  | ret u=>obtain ⟨v,bM,H',I',rv,q⟩:=hq; exact ⟨v,bM,H',I'.xq,rv,q⟩
 rintro v s1 ⟨WZ,H0,s0,I0,a,t,C,B,H1,rfl,os,bare,un,bE,na,ta,NY,zb,Pz,c,C',er,hC,hm,HS⟩
 cases hC
 subst er
 have e3:((hand c).bind fun d'=>some (Res.rt d'))=some r:=e2
 obtain ⟨d,hd,hr⟩:=bind1 e3
 cases hr
 obtain ⟨C2,EI,Js,hex⟩:=mz c d hd
 rw [hm] at Js
 cases Js
 have fr:=zb.2.2.1
 have st:=zb.1
 have PX:Heap.FlyingW B (X.env :: X.outer) a (.ref C) (.ref t) s1.heap:=by rw [<- Hb]; exact zb
 have nf:∀ b∈mi X.stack,H1 b=none:=fun b hb=>by
  obtain ⟨_,o,ho,_⟩:=I0.stack.mem hb
  exact un.free b o ho (I0.nQ b hb) fun z=>nomatch z
 have again:∀ {h2:Heap},Heap.FlyingW B (X.env :: X.outer) a (.ref C) (.ref t) h2->s1.heap.UpToSlots h2->Inv X pins WZ H1 { s1 with heap:=h2 }:=fun {h2} uU Py=>
  I0.Bw (ch:=[]) os (xl un NY st uU.1 Py fr) (sJ bE NY st uU.1 nf) bare (fun b z=>nomatch z)
 refine AJ (I0.ok.frames.trans (congrArg some Hb)) jV PX Pz fun h4 held W0 Vl=>?_
 refine JO held W0 fun h5 JW W1 Vm=>?_
 have I5:=again JW (Vl.trans Vm)
 have LT:Looks (model X.prog X.w) h5 (typeOf (.ref a)) (.ref C):=by
  obtain ⟨ob,W2,hc⟩:=JW.there
  rw [<- hc]
  exact (Looks.ld W2).andThen Looks.now
 refine wpAny_handleBy_cons (codeAny_handlers_test (ly (I5.EJ a) PU hT ?_ CY)) (by intro q; cases q)
 refine (exm_one (M:=model X.prog X.w) I5.v5 LT hex).here ?_
 refine codeAny_handlers_suite_as (sI JW W1 fun h6 MQ W3 W4=>?_)
 have I6:=again MQ ((Vl.trans Vm).trans W4)
 have MR:∃ o,h6.get? a=some o /\ o.cls=.ref C:=MQ.there
 have W5:=I6.JQ (o:=Jc a C) I0 na ta ⟨⟨MR,W3⟩,let ⟨o,q,_⟩:=MR; ⟨o,q⟩,fun h1 h2 ⟨⟨o,q,c⟩,⟨o2,fs,q2,c2⟩⟩ kk=>⟨⟨o,kk o q,c⟩,⟨o2,fs,kk o2 q2,c2⟩⟩⟩
 refine lx (X:=X.EJ a) (v:=.ref a) (W5.EJ a) hN hi (.inl hl) rfl (fun s7 I7=>?_) (.inr hl)
 have OU:i < X.N.length:=(List.getElem?_eq_some_iff.mp hi).1
 refine wpAny_mono (hs a pins s7 _ _ { nx:=fun _ _=>False,rt:=D.rt } I7 ⟨PV,[],A0,_,.rt d,Rel.JU I0.len OU WY (F.old.same HS) ta EI,⟨HS.trans (bI ta _),fun _ z=>(by simp at z),F.old⟩,hh a c d hd,⟨fun v H' h=>P.1 v H' h,fun _ _ _ _=>trivial⟩⟩) (fun fl s8 hq=>?_) fun _ _ z=>z.elim
 cases fl with
 | ret u=>
   obtain ⟨v,bM,H',J,rv,q⟩:=hq
   obtain ⟨m,hn,_⟩:=id J.loc
   exact wpAny_nameGoes hl hn (by rw [I0.ok.kind]; rfl) fun h9 m' Oe lE=>⟨v,_,H',(J.PJ I0.ok).forget Oe lE,rv,q⟩
 | next=>obtain ⟨_,_,_,q⟩:=hq; exact q.elim
 | brk=>obtain ⟨_,_,_,q⟩:=hq; exact q.elim
 | cont=>obtain ⟨_,_,_,q⟩:=hq; exact q.elim
end
def K8 (c T:Str):Bool:=decide (c=T) || decide (T="ValueError") || decide (T="LotError")
def N0:D->Option (Int×Str)
 | .dict (p :: _)=>(match p.1 with
   | .list _=>(match p.2 with
     | .tuple (.int a :: .str c :: _)=>some (a,c)
     | _=>none)
   | _=>none)
 | _=>none
def bX (cs:List Str) (T:Str) (g:DS->Option D):DS->Option D:=fun δ=>(g δ).bind fun d=>(N0 d).bind fun y=>if y.2∈cs then some (.bool (K8 y.2 T)) else none
def N1 (K:Frag) (cs:List Str) (T:Str) (Tv:Value):Prop:=∀ c∈cs,∀ C,nsIn K mainGlobals c=some (some (.ref C))->C5 K C /\ kitOne K (.ref C) Tv=some (K8 c T)
theorem zg {kds:List (D×D)} {aK:List (List Key×V)} {y:Int×Str} (k:kds.map (·.1)=aK.map (fun p=>PyData.tuple (p.1.map fJ))) (e:N0 (.dict kds)=some y):False:=by
 cases kds with
 | nil=>cases e
 | cons p r=>
   obtain ⟨d,d'⟩:=p
   refine nY k fun l z=>?_
   subst z
   cases e
theorem gg.MS {K:Frag} {A:List Addr} {H:Hp} {v:V} {d:D} {y:Int×Str} (h:gg K A H v d) (e:N0 d=some y):∃ a C:Addr,y.1=(a:Nat) /\ v=.ref a /\ nsIn K mainGlobals y.2=some (some (.ref C)) /\ H a=some (Jc a C):=by
 rcases h with h | ⟨l,o,rfl,e',q⟩
 ·cases h with
  | mj _ k _=>exact (zg k e).elim
  | exc k h=>cases e; exact ⟨_,_,rfl,rfl,k,(gZ h).2⟩
  | _=>cases e
 ·cases q with
  | mj k _=>exact (zg k e).elim
  | lst _=>cases e
section
variable {X:Cx} {O:List Nat} {e:Expr} {ga:DS->Option D} {pos p p2:Pos} {T:Str} {Tv:Value} {cv:V}
set_option tactic.hygienic true in
theorem zh (cs:List Str) (hB:X.mg "isinstance"=none) (ha:PE X e (g0 X.K O ga)) (ht:PE X (.Name T p2) (tC cv)) (PN:∀ u,RelV cv u->u=Tv) (hT:N1 X.K cs T Tv) (hg:Gl X "isinstance":=by rfl)
  (he:starEach [e,.Name T p2] X.env=(false,eval e X.env) :: starEach [.Name T p2] X.env:=by rfl) (Cm:starEach [.Name T p2] X.env=(false,eval (.Name T p2) X.env) :: starEach [] X.env:=by rfl) (js:(backTo pos (starEach [.Name T p2] X.env)).any (·.1)=false:=by rfl):
  PE X (.Call (.Name "isinstance" p) [e,.Name T p2] [] pos) (tE X.K O (bX cs T ga)):=
 (oD AN hg hB qp (bU ha (bU ht df Cm) he) (by decide) (by decide) he js).mono fun σ H Q hh=>hh.e fun U A0 δ d R ed q=>by
  obtain ⟨x,e1,e2⟩:=bind1 ed
  obtain ⟨y,e3,e4⟩:=bind1 e2
  split at e4
  ·rename_i hz
   cases e4
   refine ⟨U,A0,δ,_,R,e1,fun v H' s h=>?_⟩
   obtain ⟨a,C,_,rfl,EI,hH⟩:=h.MS e3
   obtain ⟨xc,kt⟩:=hT _ hz C EI
   exact ⟨a,C,cv,_,rfl,hH,xc,q _ H' s (.bl _),.inl ⟨Tv,PN,kt⟩⟩
  ·cases e4
end
def N2 (x:Addr) (X:Cx):Prop:=X.A.handled=some (.ref x)
def MT (x:Addr) (lo:Int) (n:Nat):It:=⟨fun i _=>i < n,fun i H v H'=>H'=H /\ v=.int (lo + i),fun i H=>n<=i /\ ∃ C,H x=some (Jc x C)⟩
theorem uZ {P:Program} {w:World} {K:Frag} {tg:Expr} (x it:Addr) (lo:Int) (n:Nat):yD (N2 x) P w K tg (MT x lo n) [it] it (fun i h=>IsRangeIter h it (lo + (i:Nat) * 1) ((n:Int) - (i:Nat)) 1) where
 mem:=by simp
 obj:=fun i h st b hb=>by
  have e:b=it:=by simpa using hb
  subst e
  exact ⟨_,st,fun v z=>by
   have z':Data.fields _=Data.cell v:=z
   cases z'⟩
 keep:=fun i h h' st k=>k it (by simp) _ st
 item:=by
  intro X hP hw hK hc i pins s σ H E I hf st hg
  subst hP hw hK
  obtain ⟨f0,f1,f2,f3,f4,f5⟩:=hf it (by simp)
  have ZM:i < n:=hg
  refine wpAny_pyNext_range_item st (by omega) fun h' sj lE=>?_
  have qj:IsRangeIter h' it (lo + ((i + 1:Nat):Int) * 1) ((n:Int) - ((i + 1:Nat):Int)) 1:=by
   have e1:lo + ((i + 1:Nat):Int) * 1=lo + (i:Int) * 1 + 1:=by push_cast; omega
   have e2:(n:Int) - ((i + 1:Nat):Int)=(n:Int) - (i:Int) - 1:=by push_cast; omega
   rw [e1,e2]; exact sj
  have I1:Inv X pins σ H { s with heap:=h',toks:=s.toks + 1 }:=I.turned (fun b o hb e=>lE.extBut b o hb e) f0 f1 f3 f4 f5
  refine ⟨_,rfl,uc (s:={ s with heap:=h',toks:=s.toks + 1 }) (n:="range_iterator") qj rfl rfl (by decide) ⟨.int (lo + i),H,I1,⟨s.toks,?_⟩,⟨rfl,rfl⟩,qj,fun b hb=>(hf b hb).1⟩⟩
  rw [Int.mul_one]
 done:=by
  intro X hP hw hK hc i pins s σ H E I hf st hg
  subst hP hw hK
  obtain ⟨f0,f1,f2,f3,f4,f5⟩:=hf it (by simp)
  obtain ⟨hn,C,hC⟩:=hg
  obtain ⟨ox,fs,ho,hd,h2⟩:=(show cb s.heap x from (I.bE x _ hC).1.2)
  exact qA hc ho hd h2 st (by omega) fun h' eb=>⟨rfl,I.turned (t':=s.toks) (fun b o hb e=>eb b o hb e) f0 f1 f3 f4 f5⟩
 self:=fun _ _ _ _ _ st h=>wpAny_pyIter_rangeiter st h
section
variable {X:Cx} {tg:Expr}
theorem AO {x:Addr} {pins:List (Addr×Obj)} {σ:St} {H:Hp} {s:Shared} {R:It->Hp->Prop} {E:Value->Shared->Prop} {lo hi:Int} {t u v:Tok} {tk:Nat} (I:Inv X pins σ H s) (h1: -(2 ^ 62)<=lo) (h2:lo < 2 ^ 62) (h3: -(2 ^ 62)<=hi) (h4:hi < 2 ^ 62)
  (q:R (MT x lo (hi - lo).toNat) H):wpAny (model X.prog X.w) X.A (pyIter (.ref s.heap.objs.size)) (BE (N2 x) X pins σ tg R) E { s with heap:=s.heap.push { cls:=.type "range",data:=.fields #[.int lo t,.int hi u,.int 1 v] },toks:=tk }:=by
 refine wpAny_pyIter_range (IsRange.new ..) (small_one h1 h2 h3 h4) ?_
 have I1:Inv X pins σ H { s with heap:=s.heap.push { cls:=.type "range",data:=.fields #[.int lo t,.int hi u,.int 1 v] },toks:=tk }:=I.kept fun b o e=>Heap.get?_push_of_some _ e
 refine ⟨(s.heap.push { cls:=.type "range",data:=.fields #[.int lo t,.int hi u,.int 1 v] }).objs.size,[(s.heap.push { cls:=.type "range",data:=.fields #[.int lo t,.int hi u,.int 1 v] }).objs.size],_,_,H,rfl,
  I1.kept (t':=tk) fun b o e=>Heap.get?_push_of_some _ e,uZ x _ lo (hi - lo).toNat,?_,fun b hb=>?_,q⟩
 ·have e1:lo + ((0:Nat):Int) * 1=lo:=by simp
  have e2:(((hi - lo).toNat:Nat):Int) - ((0:Nat):Int)=Builtin.Range.rangeSize lo hi 1:=by rw [rangeSize_one]; split <;> omega
  show IsRangeIter _ _ (lo + ((0:Nat):Int) * 1) ((((hi - lo).toNat:Nat):Int) - ((0:Nat):Int)) 1
  rw [e1,e2]
  exact Heap.get?_push_size _ rfl
 ·have e:b=(s.heap.push { cls:=.type "range",data:=.fields #[.int lo t,.int hi u,.int 1 v] }).objs.size:=by simpa using hb
  subst e
  exact I1.mr (Nat.le_refl _) (I1.bE.fresh (Nat.le_refl _))
def lV (x:Addr) (j:Nat) (g:DS->Option (List D)):DS->Option (List D):=fun δ=>((δ[j]?).join.bind N0).bind fun y=>if y.1=(x:Nat) then eQ g δ else none
set_option tactic.hygienic true in
theorem xt {O:List Nat} {a:Expr} {gr:DS->Option (List D)} {p pos:Pos} (x:Addr) (j:Nat) (hm:X.mg "range"=none) (ha:PA X [a] (oO X.K O gr)) (hg:Gl X "range":=by rfl) (hs:starEach [a] X.env=[(false,eval a X.env)]:=by rfl):
  Lw (N2 x) X tg (.Call (.Name "range" p) [a] [] pos) (HF X.K O (lV x j gr)):=by
 rintro pins s σ H Q I ⟨U,A0,δ,ds,R,ed,q⟩
 obtain ⟨y,ey,PY⟩:=bind1 ed
 obtain ⟨d0,hj,ej⟩:=bind1 ey
 ·split at PY
  ·rename_i W6
   obtain ⟨v0,_,W7⟩:=R.at (join_some hj)
   obtain ⟨a1,C,ea,_,_,hH⟩:=W7.MS ej
   have W8:a1=x:=Int.ofNat.inj (ea.symm.trans W6)
   subst W8
   obtain ⟨xs,e1,e2⟩:=bind1 PY
   split at e2
   ·split at e2
    ·rename_i j0 hz
     cases e2
     refine Call_ (ic I hg hm boot_range (PyProof.Rows.callWith_type1 (dh (ha pos pins s σ H (fun vs H1=>az H H1 /\ cy X.K (wo H1 (U ++ A0)) vs [.int j0]) I ⟨U,A0,δ,_,R,e1,fun vs H' s h=>⟨s,h⟩⟩) fun us s1 ⟨vs,H1,I1,r1,Vn,h1⟩=>?_) hs rfl))
     cases h1 with
     | cons h1 h2=>
       cases h2
       cases h1
       cases r1 with
       | cons r rr=>
         cases rr
         obtain ⟨t,rfl⟩:=r
         refine call_range_1 (AO (x:=a1) I1 (by omega) (by omega) hz.1 hz.2 (q _ H1 Vn fun i H2 s2=>⟨fun d hd=>?_,fun hi=>?_⟩))
         ·rw [Int.sub_zero]
          obtain ⟨hi,rfl⟩:=oX hd
          refine ⟨hi,fun y H3 hy=>?_⟩
          obtain ⟨rfl,rfl⟩:=hy
          exact ⟨az.refl _,.int _⟩
         ·rw [oY] at hi
          subst hi
          rw [Int.sub_zero]
          exact ⟨Nat.le_refl _,C,s2 _ _ (Vn _ _ hH)⟩
    ·cases e2
   ·cases e2
  ·cases PY
end
section
variable {X:Cx} {O:List Nat} {scope:Scope} {elt iter tg:Expr} {ifs:List Expr} {pos:Pos} {gi:DS->Option (List D)} {ge:DS->Option D} {gt:D->DS->Option DS} {gc:DS->Option Bool} {k:Nat}
theorem AQ {gd:Cx->Prop} {i:Nat} {y:Str} {py uK:Pos} (sc:Scope) (N:List Str) (ix:List Nat) (N' xs:List Str) (hc:∀ cl C s2 H2 fp pins,gd (aQ X scope N' cl C s2 H2 fp pins)) (MF:X.N.Nodup) (HL:X.N[i]?=some y) (hy:X.env.scope.names.lookup y=some .local) (own:JD k gt) (hi:Lw gd X tg iter (HF X.K O gi))
  (hg:∀ cl C s2 H2 fp pins,PG (aQ X scope N' cl C s2 H2 fp pins) tg (tG X.K [] gt)) (hf:∀ cl C s2 H2 fp pins,PF (aQ X scope N' cl C s2 H2 fp pins) ifs (tT X.K [] gc)) (iS:∀ cl C s2 H2 fp pins,PE (aQ X scope N' cl C s2 H2 fp pins) elt (tE X.K [] ge))
  (uB:∀ j∈ix,j∉O:=by decide) (hk:jB sc scope N xs ix N'=true:=by decide +kernel) (hl:xs.length=k:=by rfl)
  (e1:X.env.scope=sc:=by rfl) (e2:X.N=N:=by rfl) (hs:∀ x,foldedSetIterable iter X.env x=pure x:=by intro _; rfl) (MG:swapsWith (.ListComp elt [⟨tg,iter,ifs,0⟩] scope pos) (some (.Name y py)) uK.line X.env=pure true:=by rfl):
  PS X (.Assign [.Name y py] (.ListComp elt [⟨tg,iter,ifs,0⟩] scope pos) uK) (mq (tN X.K O (cz gi k ix gt gc ge)) (eX i)):=by
 subst hl
 exact (rn (kH hk e1 e2) hc hi hg hf iS hs MF HL hy MG).mono fun _ _ _ h=>pe own uB h
end
theorem g8.units {k:Nat} {A:Around} (r:g8 k A):A.units + 64 < cLine:=by have:=r.un; omega
theorem JX {X:Cx} {k:Nat} (hr:g8 k X.A):gH X (compareOp .NotEq) (Cb X.K true):=by
 intro pins s σ H x y v u Q I rx ry h
 obtain ⟨d,e,h1,h2,s1,s2,q⟩:=h
 obtain ⟨as,r1⟩:=h1.reads I rx (cR s1)
 obtain ⟨bs,r2⟩:=h2.reads I ry (cR s2)
 exact ne_dataH r1 r2 s1 s2 hr.units ⟨.bl _,H,I,rfl,q⟩
structure Vo (P:Program) (w:World) (K:Frag) (mg:Str->Option Value) (base:Heap) (k:Nat) (f:Addr) (fd:FuncData) (ps:List Str) (sp:Addr->Sp):Prop where
 len:∀ x vs H Q E,sp x vs H Q E->vs.length=ps.length
 run:∀ (x:Addr) (A:Around) (outer:List Env) (s:Shared) (H:Hp) (args:Args) (us:List Value) (vs:List V) (Q:VK) (E:XK),g8 k A->A.handled=some (.ref x)->zY P w K mg base A outer s H->BindsTo s fd args (ps.zip us)->bf vs us->sp x vs H Q E->
  codeAny (model P w) A (.call (.ref f) args) (CR v8 outer P w H s Q E) s
section
variable {P:Program} {w:World} {K:Frag} {mg:Str->Option Value} {base:Heap}
theorem JY {k:Nat} {f:Addr} {name qual:Str} {params:Arguments} {body:List Stmt} {scope:Scope} {dV kV doc pm bR ct oc:Value} {an od:Option Addr} {wB:Array (Option Value)} {N ps:List Str} {sp:Addr->Sp}
  (lk:K.lookup f=some ⟨oc,od,.func (fnOf name qual params body scope dV kV doc pm an bR ct),wB⟩) (qh:codeIn K bR qual=true) (S:aD N ps scope) (len:∀ x vs H Q E,sp x vs H Q E->vs.length=ps.length)
  (lB:∀ (x:Addr) (A:Around) (outer:List Env) (s:Shared) (H:Hp) (vs:List V) (Q:VK) (E:XK),g8 k (A.deeper (envOfC qual scope s.heap.objs.size f bR))->A.handled=some (.ref x)->sp x vs H Q E->
   ∃ t,ji (PQ P w K mg base N qual scope f bR A outer s H) body t /\ t { nx:=fun _ H'=>Q .gU H',rt:=Q } (start N vs) H):
  Vo P w K mg base (k + 1) f (fnOf name qual params body scope dV kV doc pm an bR ct) ps sp:=by
 refine ⟨len,fun x A outer s H args us vs Q E hr hx e0 hb r BL=>?_⟩
 have KX:K.In s.heap:=e0.mod.Lj.keeps fun b o e=>(e0.bs b o e).1
 have lim:s.heap.NoLimit:=e0.mod.nolimit.keeps fun b o e=>(e0.bs b o e).1
 obtain ⟨t,ht,hq⟩:=lB x A outer s H vs Q E (hr.deeper _) hx BL
 have BM:∀ y∈ps.zip us,scope.names.lookup y.1=some .local \/ (scope.names.lookup y.1=some .cell /\ ((cellsFrom (s.heap.objs.size + 1) scope.names []).lookup y.1).isSome=true):=fun ⟨n,v⟩ hy=>
  (S.par n (List.of_mem_zip hy).1).elim .inl fun q=>.inr ⟨q,cellsFrom_some _ _ _ (.inl q)⟩
 refine codeAny_call_function (by have:=hr.dp; omega) (KX _ _ lk) rfl S.co S.gen rfl (codeRec_of KX qh) (hb _ _ _ _ (wpAny_newFunctionEnv_cells S.kind BM fun env he s1 x=>?_))
 subst he
 refine ⟨lim.keeps x.toInCall.keep,codeAny_func ?_⟩
 have e1:zY P w K mg base { A with handled:=none } outer s H:=⟨e0.frames,e0.mod,e0.bs,e0.we,e0.gW,e0.wg,e0.bE,e0.bare⟩
 have J:Inv (fZ v8 P w K mg base N qual scope f bR { A with handled:=none } outer s H E0) [] (start N vs) H s1:=qR S rfl e1 (len _ _ _ _ _ BL) r x
 have I:Inv (PQ P w K mg base N qual scope f bR A outer s H) [] (start N vs) H s1:=
  ⟨⟨J.ok.mod,J.ok.kind,J.ok.glob,J.ok.blt,J.ok.above,J.ok.inj,J.ok.has,J.ok.Bv,(fun z=>nomatch z),Around.frames_deeper e0.frames,J.ok.EC,J.ok.G5,J.ok.bs,J.ok.we,J.ok.nH,J.ok.qf,J.ok.gW,J.ok.wg⟩,
    J.os,J.bare,J.base,J.loc,J.cell,J.free,J.eA,J.pin,J.bE,J.len⟩
 refine wpAny_mono (ht [] s1 (start N vs) H _ I hq) (fun fl s' hs=>?_) fun e s' hs=>hs.elim
 cases fl with
 | ret u=>
   obtain ⟨v,bM,H',J',rv,q⟩:=hs
   exact ⟨v,H',J'.os,J'.bare,J'.base,J'.bE,rv,q⟩
 | next=>
   obtain ⟨bM,H',J',q⟩:=hs
   exact ⟨.gU,H',J'.os,J'.bare,J'.base,J'.bE,rfl,q⟩
 | brk=>obtain ⟨_,_,_,q⟩:=hs; exact q.elim
 | cont=>obtain ⟨_,_,_,q⟩:=hs; exact q.elim
def N3 (P:Program) (w:World) (K:Frag) (mg:Str->Option Value) (base:Heap) (k:Nat) (x:Str) (ps:List Str) (sp:Addr->Sp):Prop:=
 ∃ f fd,Vo P w K mg base k f fd ps sp /\ mg x=some (.ref f) /\ keepIn K (.ref f)=true /\ Binds K fd ps []
theorem FQ {x:Str} {st:Stmt} {N ps:List Str} {k:Nat} (O:List Nat) (g:Addr->DS->Option Res) (F:Df K mg x st ps) (S:aD N ps (ao st))
  (body:∀ (y f:Addr) (bR:Value) (A:Around) (outer:List Env) (s:Shared) (H:Hp),g8 k (A.deeper (envOfC x (ao st) s.heap.objs.size f bR))->A.handled=some (.ref y)->ji (PQ P w K mg base N x (ao st) f bR A outer s H) (cD st) (tS K O (false,fun _ _=>True) (g y)))
  (hO:∀ i∈O,ps.length<=i:=by decide) {n m:Nat} (hN:N.length=n:=by rfl) (hP:ps.length=m:=by rfl):N3 P w K mg base (k + 1) x ps (fun y=>eK K m (ff n (g y))):=by
 subst hN hP
 obtain ⟨f,fd,F,m,b⟩:=F
 have kp:=F.kp
 obtain ⟨oc,od,kV,doc,pm,an,bR,ct,wB,rfl,lk,qh⟩:=F.ex
 refine ⟨f,_,JY lk qh S (fun y vs H Q E h=>h.1) (fun y A outer s H vs Q E hr hy h=>⟨_,body y f bR A outer s H hr hy,?_⟩),m,kp,b⟩
 obtain ⟨hn,A',ds,d,al,hd,e,q⟩:=h
 obtain ⟨r,e1,e2⟩:=bind1 e
 refine ⟨H,[],A',_,r,Rel.start al hd (fun i hi=>by have:=hO i hi; rw [<- hd.len,hn]; exact this),Fx.start al,e1,?_⟩
 cases r with
 | nx δ=>cases e2; exact fun U σ H' R F'=>q .gU H' F'.same .gU
 | rt d=>cases e2; exact ⟨fun v H' h=>by unfold iA at h; rw [if_neg Bool.false_ne_true] at h; exact q v H' h.1 h.2,fun _ _ _ _=>trivial⟩
 | bk _=>cases e2
 | ct _=>cases e2
end
set_option tactic.hygienic true in
theorem C9 {X:Cx} {O:List Nat} {y:Addr} {k kk n:Nat} {ps:List Str} {G:Addr->List D->Option D} {x:Str} {p pos:Pos} {e:Expr} {es:List Expr} {gr:DS->Option (List D)} (F:N3 X.prog X.w X.K X.mg X.base k x ps (fun y=>eK X.K n (G y))) (hr:g8 kk X.A) (hk:k<=kk) (hy:X.A.handled=some (.ref y))
  (ha:PA X (e :: es) (oO X.K O gr)) (hg:Gl X x:=by rfl) (oC:(x == ("__debug__":Str))=false:=by decide) (he:starEach (e :: es) X.env=(false,eval e X.env) :: starEach es X.env:=by rfl) (js:(backTo pos (starEach es X.env)).any (·.1)=false:=by rfl):
  PE X (.Call (.Name x p) (e :: es) [] pos) (tE X.K O (aC (G y) n gr)):=by
 obtain ⟨f,fd,F,hm,kp,hb⟩:=F
 rintro pins s σ H Q I ⟨U,A0,δ,d,R,ed,q⟩
 obtain ⟨ds,e1,e2⟩:=bind1 ed
 split at e2
 rotate_left
 ·cases e2
 rename_i hn
 refine wpAny_Call_Name_kw (ly I hg hm ?_ oC)
 refine callWith_K (h₀:=X.base) I.ok.mod.Lj kp (dh (ha pos pins s σ H (fun vs H1=>eK X.K n (G y) vs H1 Q E0) I ⟨U,A0,δ,ds,R,e1,fun vs H' s h=>⟨by rw [h.len]; exact hn,U ++ A0,ds,d,(R.same s).al,h,e2,fun v H2 s2 h2=>q v H2 (s.trans s2) h2⟩⟩) fun us s1 ⟨vs,H1,I1,r,q⟩=>⟨I1.v5,?_⟩) he js
 have hlen:us.length=ps.length:=by rw [<- r.length]; exact F.len _ _ _ _ _ q
 refine wpAny_call (codeAny_mono (F.run y X.A X.stack s1 H1 ⟨us,[]⟩ us vs _ _ (hr.mono hk) hy I1.LI (by have:=hb s1 us I1.v5 (by rw [List.append_nil]; exact hlen); rwa [List.append_nil] at this) r q) fun rr s' hq=>?_)
 cases rr with
 | error v=>exact False.elim hq
 | ok fl=>
   cases fl with
   | ret u=>exact I1.after hq
   | next=>exact False.elim hq
   | brk=>exact False.elim hq
   | cont=>exact False.elim hq
def i3 (cs:List Str) (f:Str->D):Str->Option D:=fun c=>if c∈cs then some (f c) else none
theorem nv {cs:List Str} {f:Str->D} {c:Str} {d:D} (h:i3 cs f c=some d):c∈cs /\ d=f c:=by
 unfold i3 at h
 split at h
 ·cases h; exact ⟨by assumption,rfl⟩
 ·cases h
theorem xu {cs:List Str} {f:Str->D} {c:Str} {d:D} (h:i3 cs f c=some d):c∈cs:=(nv h).1
theorem FR {W:List D->Option D} {i:Nat} {δ:DS} {x d:D} (e:af i δ=some x) (h:W [x]=some d):bZ (aC W 1 (aa (af i) ah)) δ=some (.rt d):=by
 have e2:aC W 1 (aa (af i) ah) δ=some d:=by
  unfold aC aa ah
  rw [e]
  exact h
 unfold bZ
 rw [e2]; rfl
theorem ko {x:Addr} {j:Nat} {c:Str} {g:DS->Option (List D)} {δ:DS} (e:(δ[j]?).join=some (C8 x c)):lV x j g δ=eQ g δ:=by
 unfold lV
 rw [e]
 exact if_pos rfl
theorem u0 {gi Vp:DS->Option (List D)} {k:Nat} {ix:List Nat} {gt:D->DS->Option DS} {gc:DS->Option Bool} {ge:DS->Option D} {δ:DS} (h:gi δ=Vp δ):cz gi k ix gt gc ge δ=cz Vp k ix gt gc ge δ:=by unfold cz; rw [h]
theorem Dc {g g':DS->Option (List D)} {i:Nat} {δ:DS} (h:g δ=g' δ):aR i (aU g) δ=aR i (aU g') δ:=by unfold aR aU; rw [h]
theorem Dd {a a' b:DS->Option Res} {δ:DS} (h:a δ=a' δ):aA a b δ=aA a' b δ:=by unfold aA; rw [h]
def JZ (K:Frag) (mg:Str->Option Value) (cs TS:List Str):Prop:=∀ T∈TS,∃ C,mg T=some (.ref C) /\ N1 K cs T (.ref C)
def MU (K:Frag) (mg:Str->Option Value) (L:Addr) (cs:List Str):Prop:=∀ c∈cs,∃ C,nsIn K mainGlobals c=some (some (.ref C)) /\ mg c=some (.ref C) /\ exmOne K (.ref C) (.ref L)=some true
theorem cT {X:Cx} {O:List Nat} {e:Expr} {ga:DS->Option D} {pos p p2:Pos} {T:Str} (cs TS:List Str) (CT:JZ X.K X.mg cs TS) (W9:T∈TS) (hB:X.mg "isinstance"=none) (ha:PE X e (g0 X.K O ga)) (PU:Gl X T:=by rfl) (CY:(T == ("__debug__":Str))=false:=by decide) (hg:Gl X "isinstance":=by rfl)
  (he:starEach [e,.Name T p2] X.env=(false,eval e X.env) :: starEach [.Name T p2] X.env:=by rfl) (Cm:starEach [.Name T p2] X.env=(false,eval (.Name T p2) X.env) :: starEach [] X.env:=by rfl) (js:(backTo pos (starEach [.Name T p2] X.env)).any (·.1)=false:=by rfl):
  PE X (.Call (.Name "isinstance" p) [e,.Name T p2] [] pos) (tE X.K O (bX cs T ga)):=by
 obtain ⟨C,m,k⟩:=CT T W9
 exact zh cs hB ha (qV (v:=.ref C) ⟨_,m,rfl⟩ PU CY) (fun u r=>r) k hg he Cm js
def HU:Option Obj->Bool
 | some ⟨_,_,.cls _,_⟩=>true
 | _=>false
def De (K:Frag) (C:Addr):Bool:=HU (K.lookup C) && subIn K (.ref C) (.type "object") == some true && subIn K (.ref C) (.type "BaseException") == some true && findIn K (.ref C) "__class__" == some (some (.builtin "object.__class__")) &&
 findIn K (.ref C) "__getattribute__" == some (some (.builtin "BaseException.__getattribute__")) && findIn K (.ref C) "__getattr__" == some none
theorem FT {K:Frag} {C:Addr} (q:De K C=true):C5 K C:=by
 unfold De at q
 simp only [Bool.and_eq_true,beq_iff_eq] at q
 obtain ⟨⟨⟨⟨⟨a,b⟩,c⟩,d⟩,e⟩,f⟩:=q
 refine ⟨?_,b,c,d,e,f⟩
 unfold HU at a
 split at a
 ·exact ⟨_,_,_,_,by assumption⟩
 ·cases a
def refOf:Option (Option Value)->Option Addr
 | some (some (.ref C))=>some C
 | _=>none
theorem pw {v:Option (Option Value)} {C:Addr} (h:refOf v=some C):v=some (some (.ref C)):=by
 unfold refOf at h
 split at h
 ·cases h; rfl
 ·cases h
def xw (K:Frag) (L:Addr) (cs TS:List Str):Bool:=(TS.all fun T=>(refOf (nsIn K mainGlobals T)).isSome) && cs.all fun c=>match refOf (nsIn K mainGlobals c) with
 | some C=>De K C && exmOne K (.ref C) (.ref L) == some true && kitOne K (.ref C) (.type "ValueError") == some true && TS.all fun T=>match refOf (nsIn K mainGlobals T) with
   | some CT=>kitOne K (.ref C) (.ref CT) == some (K8 c T)
   | none=>false
 | none=>false
section
variable {K:Frag} {L:Addr} {cs TS:List Str} {c:Str} {h:Heap} {mg:Str->Option Value}
set_option tactic.hygienic true in
theorem pz (q:xw K L cs TS=true) (hc:c∈cs):∃ C,nsIn K mainGlobals c=some (some (.ref C)) /\ C5 K C /\ exmOne K (.ref C) (.ref L)=some true /\ kitOne K (.ref C) (.type "ValueError")=some true /\
  ∀ T∈TS,∀ CT,nsIn K mainGlobals T=some (some (.ref CT))->kitOne K (.ref C) (.ref CT)=some (K8 c T):=by
 unfold xw at q
 rw [Bool.and_eq_true] at q
 have q1:=List.all_eq_true.mp q.2 c hc
 split at q1
 ·rename_i C hC
  simp only [Bool.and_eq_true,beq_iff_eq] at q1
  obtain ⟨⟨⟨a,b⟩,d⟩,e⟩:=q1
  refine ⟨C,pw hC,FT a,b,d,fun T hT CT PZ=>?_⟩
  have e1:=List.all_eq_true.mp e T hT
  rw [PZ] at e1
  exact beq_iff_eq.mp e1
 ·cases q1
theorem FU (X:K.In h) (G:h.Ns mainGlobals mg) (q:xw K L cs TS=true):JZ K mg cs TS:=fun T hT=>by
 have q0:=q
 unfold xw at q0
 rw [Bool.and_eq_true] at q0
 have q1:=List.all_eq_true.mp q0.1 T hT
 obtain ⟨CT,PZ⟩:=Option.isSome_iff_exists.mp q1
 have hn:=pw PZ
 refine ⟨CT,mg_of X G hn,fun c hc C hC=>?_⟩
 obtain ⟨C',h1,h2,_,_,h5⟩:=pz q hc
 rw [hC] at h1
 cases h1
 exact ⟨h2,h5 T hT CT hn⟩
theorem FV (q:xw K L cs TS=true):N1 K cs "ValueError" (.type "ValueError"):=fun c hc C hC=>by
 obtain ⟨C',h1,h2,_,h4,_⟩:=pz q hc
 rw [hC] at h1
 cases h1
 refine ⟨h2,h4.trans ?_⟩
 unfold K8
 simp
theorem FW (X:K.In h) (G:h.Ns mainGlobals mg) (q:xw K L cs TS=true):MU K mg L cs:=fun c hc=>by
 obtain ⟨C,h1,_,h3,_⟩:=pz q hc
 exact ⟨C,h1,mg_of X G h1,h3⟩
theorem zi (X:K.In h):(bz K).In h:=fun b o e=>by
 rw [gL] at e
 split at e
 ·exact X b o e
 ·cases e
end
theorem AR {es:List Expr} {p:Pos} {t:Option Expr} {l:Nat} {env:Env}:swapsWith (.List es p) t l env=pure false:=rfl
def zj:List Expr->Option (List Str)
 | []=>some []
 | .Constant (.str n) _ _ :: es=>(zj es).map (n :: ·)
 | _=>none
def u3 (ns:List Str):DS->Option (List D):=fun _=>some (ns.map .str)
set_option tactic.hygienic true in
theorem pA {X:Cx} {O:List Nat}:∀ {es:List Expr} {ns:List Str},zj es=some ns->PA X es (oO X.K O (u3 ns))
 | [],ns,h=>by
   cases h
   exact ak
 | e :: es,ns,h=>by
   unfold zj at h
   split at h
   ·cases ‹_ :: _=[]›
   ·rename_i n k p tX he
    cases he
    cases q:zj es with
    | none=>rw [q] at h; cases h
    | some ms=>
      rw [q] at h
      cases h
      exact ae (eP dW) (pA q) rfl
   ·cases h
theorem MV:bootBuiltins "ValueError"=some (.type "ValueError"):=by decide +kernel
abbrev VE:List Value:=[.type "ValueError",.type "Exception",.type "BaseException",.type "object"]
def Dg:Res->Option D
 | .rt d=>some d
 | _=>none
def Dh (n:Nat) (g:DS->Option Res):List D->Option D:=fun ds=>(g (ds.map some ++ List.replicate (n - ds.length) none)).bind Dg
def lW (K:Frag) (mg:Str->Option Value) (n:Nat) (G:List D->Option D):Sp:=fun vs H Q E=>vs.length=n /\ ∃ A ds d,Ls A H /\ cy K (wo H A) vs ds /\ G ds=some d /\
 (∀ v H',iA K true H A v d H'->Q v H') /\ ∀ c H',d=mB c->az H H'->qC mg E c H'
section
variable {P:Program} {w:World} {K:Frag} {mg:Str->Option Value} {base:Heap} {N ps:List Str} {x:Str} {st:Stmt} {k:Nat}
theorem u4 (O:List Nat) (g:DS->Option Res) (F:Df K mg x st ps) (S:aD N ps (ao st))
  (body:∀ (f:Addr) (bR:Value) (A:Around) (outer:List Env) (s:Shared) (H:Hp) (E:XK),dq k (A.deeper (envOfC x (ao st) s.heap.objs.size f bR))->ji (fZ (t4 P w) P w K mg base N x (ao st) f bR A outer s H E) (cD st) (tS K O (true,qC mg E) g))
  (hO:∀ i∈O,ps.length<=i:=by decide) {n m:Nat} (hN:N.length=n:=by rfl) (hP:ps.length=m:=by rfl):zc P w K mg base (k + 1) x ps (lW K mg m (Dh n g)):=by
 subst hN hP
 refine F.Vk S (fun vs H Q E h=>h.1) (fun f bR A outer s H vs Q E hr h=>⟨_,body f bR A outer s H E hr,?_⟩)
 obtain ⟨hn,A',ds,d,al,hd,e,q,qx⟩:=h
 obtain ⟨r,e1,e2⟩:=bind1 e
 refine ⟨H,[],A',_,r,Rel.start al hd (fun i hi=>by have:=hO i hi; rw [<- hd.len,hn]; exact this),Fx.start al,e1,?_⟩
 cases r with
 | rt d=>cases e2; exact ⟨fun v H' h=>q v H' h,fun c H' e s=>qx c H' e s⟩
 | _=>cases e2
end
def HV (i:Nat) (δ:DS) (d:D):Option Res:=match qB d with
 | some _=>some (.rt d)
 | none=>(match d with
   | .list ds=>some (.nx (δ.set i (some (.list ds))))
   | _=>none)
section
variable {X:Cx} {O:List Nat} {E:XK} {k kk n i:Nat} {x:Str} {ps:List Str} {p pos:Pos} {e:Expr} {es:List Expr} {gr:DS->Option (List D)} {G:List D->Option D} {st:Stmt} {b:Bool}
theorem mK (F:zc X.prog X.w X.K X.mg X.base k x ps (lW X.K X.mg n G)) (hr:dq kk X.A) (hk:k<=kk) (hx:ku (t4 X.prog X.w) X E) (ha:PA X (e :: es) (oO X.K O gr)) (hg:Gl X x:=by rfl)
  (oC:(x == ("__debug__":Str))=false:=by decide) (he:starEach (e :: es) X.env=(false,eval e X.env) :: starEach es X.env:=by rfl) (js:(backTo pos (starEach es X.env)).any (·.1)=false:=by rfl):
  PE X (.Call (.Name x p) (e :: es) [] pos) (lA (lW X.K X.mg n G) [] E (oO X.K O gr)):=by
 obtain ⟨f,fd,F,m,kp,b⟩:=F
 exact rO F (hr.mono hk) hg m kp b .nil hx ha oC he js
end
end L2
namespace L2
open PySem PySem.Spec PyProof.Rows
abbrev Gq:=List Key×Addr×List V×List D
def AS (qs:List Gq):List (List Key×V):=qs.map fun q=>(q.1,V.ref q.2.1)
structure zk (K:PySem.W.Frag) (U A0:List Addr) (H:Hp) (a:Addr) (qs:List Gq):Prop where
 at':H a=some (.dT (AS qs))
 K9:a∈U
 nd:(qs.map (·.2.1)).Nodup
 kn:(qs.map (·.1)).Nodup
 ls:∀ q∈qs,q.2.1∈U /\ H q.2.1=some (.lst q.2.2.1) /\ cy K (wo H (U ++ A0)) q.2.2.1 q.2.2.2
def jC (qs:List Gq):List (D×D):=qs.map fun q=>(.tuple (q.1.map fJ),.list q.2.2.2)
theorem zk.same {K:PySem.W.Frag} {U A0:List Addr} {H H':Hp} {a:Addr} {qs:List Gq} (g:zk K U A0 H a qs) (s:az H H'):zk K U A0 H' a qs:=
 ⟨s _ _ g.at',g.K9,g.nd,g.kn,fun q hq=>⟨(g.ls q hq).1,s _ _ (g.ls q hq).2.1,(g.ls q hq).2.2.same (cq s)⟩⟩
structure Vq (K:PySem.W.Frag) (i:Nat) (f:DS->List (D×D)->Option (DS×List (D×D))) (E:Ends) (σ:St) (H H0:Hp) (U A0:List Addr) (δ:DS) (qs:List Gq) (a:Addr) (r:DS×List (D×D)):Prop where
 R:Rel K [] U A0 σ δ H
 F:Fx H0 A0 U H
 hi:σ[i]?=some (some (.ref a))
 g:zk K U A0 H a qs
 ef:f δ (jC qs)=some r
 P:∀ U' bM H' HW,Rel K [] U' A0 bM r.1 H'->Fx H0 A0 U' H'->bM[i]?=some (some (.ref a))->zk K U' A0 H' a HW->jC HW=r.2->E.nx bM H'
def J0 (K:PySem.W.Frag) (i:Nat) (f:DS->List (D×D)->Option (DS×List (D×D))):TS:=fun E σ H=>∃ H0 U A0 δ qs a r,Vq K i f E σ H H0 U A0 δ qs a r
theorem Di {K:PySem.W.Frag} {i:Nat} {f:DS->List (D×D)->Option (DS×List (D×D))} {E:Ends} {σ:St} {H:Hp} {C:Prop} (h:J0 K i f E σ H) (k:∀ H0 U A0 δ qs a r,Vq K i f E σ H H0 U A0 δ qs a r->C):C:=by
 obtain ⟨_,_,_,_,_,_,_,t⟩:=h
 exact k _ _ _ _ _ _ _ t
theorem rE {α β:Type} {f:α->β} {l:List α} (h:(l.map f).Nodup) {p q:α} (hp:p∈l) (hq:q∈l) (e:f p=f q):p=q:=by
 induction l with
 | nil=>simp at hp
 | cons x l ih=>
   rw [List.map_cons,List.nodup_cons] at h
   rcases List.mem_cons.mp hp with y | y <;> rcases List.mem_cons.mp hq with z | z
   ·rw [y,z]
   ·exact absurd (by rw [<- y,e]; exact List.mem_map.mpr ⟨q,z,rfl⟩) h.1
   ·exact absurd (by rw [<- z,<- e]; exact List.mem_map.mpr ⟨p,y,rfl⟩) h.1
   ·exact ih h.2 y z
theorem zl {k:List Key}:∀ {qs:List Gq},(bD (jC qs) k=none->∀ q∈qs,q.1≠k) /\ ∀ d,bD (jC qs) k=some d->∃ q∈qs,q.1=k /\ d=.list q.2.2.2 /\ kx (AS qs) k=some (.ref q.2.1):=by
 intro qs
 induction qs with
 | nil=>exact ⟨fun _ q hq=>(by simp at hq),fun d e=>(by cases e)⟩
 | cons q qs ih=>
   have hj:keyOf (.tuple (q.1.map fJ))=some q.1:=d6 q.1
   by_cases e:q.1=k
   ·have h1:bD (jC (q :: qs)) k=some (.list q.2.2.2):=cI (p:=(PyData.tuple (q.1.map fJ),PyData.list q.2.2.2)) (by rw [<- e]; exact hj)
    rw [h1]
    refine ⟨fun z=>(by cases z),fun d z=>?_⟩
    cases z
    exact ⟨q,List.mem_cons_self,e,rfl,ju (p:=(q.1,V.ref q.2.1)) e⟩
   ·have h1:bD (jC (q :: qs)) k=bD (jC qs) k:=cJ (p:=(PyData.tuple (q.1.map fJ),PyData.list q.2.2.2)) (by rw [hj]; exact fun z=>e (Option.some.inj z))
    rw [h1]
    refine ⟨fun z p hp=>?_,fun d z=>?_⟩
    ·rcases List.mem_cons.mp hp with y | y
     ·rw [y]; exact e
     ·exact ih.1 z p y
    ·obtain ⟨p,p1,p2,p3,p4⟩:=ih.2 d z
     exact ⟨p,List.mem_cons_of_mem _ p1,p2,p3,(jv (p:=(q.1,V.ref q.2.1)) e).trans p4⟩
def zm (gk:DS->Option D):DS->List (D×D)->Option (DS×List (D×D)):=fun δ kds=>(gk δ).bind fun y=>(keyOf y).bind fun k=>if kds.length < 100000 /\ bD kds k=none then some (δ,kds ++ [(.tuple (k.map fJ),.list [])]) else none
def rF (gk ge:DS->Option D):DS->List (D×D)->Option (DS×List (D×D)):=fun δ kds=>(gk δ).bind fun y=>(ge δ).bind fun d=>(keyOf y).bind fun k=>(bD kds k).bind fun x=>match x with
 | .list ds=>if ds.length < 100000 then some (δ,kds.map fun p=>if keyOf p.1=some k then (p.1,.list (ds ++ [d])) else p) else none
 | _=>none
theorem zk.add {K:PySem.W.Frag} {U A0:List Addr} {σ:St} {δ:DS} {H H0 H2:Hp} {a r:Addr} {qs:List Gq} {k:List Key} (R:Rel K [] U A0 σ δ H) (F:Fx H0 A0 U H) (g:zk K U A0 H a qs) (FX:az H H2) (hr:H r=none) (K4:H2 r=some (.lst [])) (hk:∀ q∈qs,q.1≠k) {H4:Hp} (e4:H4=upd H2 a (.dT (putK (AS qs) k (.ref r)))):
  Rel K [] (r :: U) A0 σ δ H4 /\ Fx H0 A0 (r :: U) H4 /\ zk K (r :: U) A0 H4 a (qs ++ [(k,r,[],[])]):=by
 have g2:=g.same FX
 have Xa:r≠a:=fun z=>by rw [z,g.at'] at hr; cases hr
 have MW:putK (AS qs) k (.ref r)=AS (qs ++ [(k,r,[],[])]):=by
  unfold putK AS
  rw [if_neg,List.map_append]; rfl
  intro z
  obtain ⟨x,hx,z⟩:=List.any_eq_true.mp z
  obtain ⟨q,hq,rfl⟩:=List.mem_map.mp hx
  exact hk q hq (of_decide_eq_true z)
 rw [MW] at e4
 have ne4:∀ c,c≠a->H4 c=H2 c:=fun c hc=>by rw [e4,aI hc]
 have MX:H4 a=some (.dT (AS (qs ++ [(k,r,[],[])]))):=by rw [e4,bw]
 have F4:Fx H0 A0 (r :: U) H4:=by rw [e4]; exact (F.more FX hr).put (List.mem_cons_of_mem _ g.K9) _
 have tp:∀ p xs,cx H2 p xs->cx H4 p xs:=fun p xs h=>by rw [e4]; exact h.dT g2.at'
 clear e4 MW
 have sm:az (wo H (U ++ A0)) (wo H4 ((r :: U) ++ A0)):=fun c o hc=>by
  obtain ⟨c1,c2⟩:=gZ hc
  have cr:c≠r:=fun z=>by rw [z,hr] at c2; cases c2
  have c3:c∉(r :: U) ++ A0:=fun z=>(List.mem_cons.mp z).elim cr c1
  rw [bp c3,ne4 c fun z=>c1 (by rw [z]; exact List.mem_append_left _ g.K9)]
  exact FX _ _ c2
 refine ⟨⟨R.len,fun j d hj e=>(R.fz j d hj e).imp fun v h=>⟨h.1,h.2.same sm⟩,fun j d hj=>(by simp at hj),fun j k d e l hj=>(by simp at hj),fun c hc=>?_,fun p xs m=>tp p xs ((R.al.same FX).2 p xs m)⟩,F4,MX,List.mem_cons_of_mem _ g.K9,?_,?_,fun q hq=>?_⟩
 ·by_cases ca:c=a
  ·rw [ca]; exact ⟨_,MX,trivial⟩
  ·rw [ne4 c ca]
   rcases List.mem_cons.mp (show c∈r :: (U ++ A0) from hc) with z | z
   ·rw [z]; exact ⟨_,K4,trivial⟩
   ·exact (R.al.same FX).1 c z
 ·rw [List.map_append]
  refine List.nodup_append.mpr ⟨g.nd,by simp,fun x hx y hy=>?_⟩
  obtain ⟨q,hq,rfl⟩:=List.mem_map.mp hx
  rw [show y=r by simpa using hy]
  exact fun z=>by have:=(g.ls q hq).2.1; rw [z,hr] at this; cases this
 ·rw [List.map_append]
  refine List.nodup_append.mpr ⟨g.kn,by simp,fun x hx y hy=>?_⟩
  obtain ⟨q,hq,rfl⟩:=List.mem_map.mp hx
  rw [show y=k by simpa using hy]
  exact hk q hq
 ·rcases List.mem_append.mp hq with z | z
  ·obtain ⟨l1,l2,l3⟩:=g.ls q z
   refine ⟨List.mem_cons_of_mem _ l1,?_,l3.same sm⟩
   rw [ne4 _ fun z=>by rw [z,g.at'] at l2; cases l2]
   exact FX _ _ l2
  ·rw [show q=(k,r,[],[]) by simpa using z]
   exact ⟨List.mem_cons_self,(ne4 r Xa).trans K4,.nil⟩
set_option tactic.hygienic true in
theorem zk.up {K:PySem.W.Frag} {U A0:List Addr} {σ:St} {δ:DS} {H H0 H4:Hp} {a:Addr} {qs:List Gq} {q:Gq} {v:V} {d:D} (R:Rel K [] U A0 σ δ H) (F:Fx H0 A0 U H) (g:zk K U A0 H a qs) (hq:q∈qs) (hv:HD K (wo H (U ++ A0)) v d) (e4:H4=upd H q.2.1 (.lst (q.2.2.1 ++ [v]))):
  Rel K [] U A0 σ δ H4 /\ Fx H0 A0 U H4 /\ ∃ HW,zk K U A0 H4 a HW /\ jC HW=(jC qs).map fun p=>if keyOf p.1=some q.1 then (p.1,.list (q.2.2.2 ++ [d])) else p:=by
 obtain ⟨m1,m2,m3⟩:=g.ls q hq
 have ne4:∀ c,c≠q.2.1->H4 c=H c:=fun c hc=>by rw [e4,aI hc]
 have MX:H4 q.2.1=some (.lst (q.2.2.1 ++ [v])):=by rw [e4,bw]
 have hw:wo H4 (U ++ A0)=wo H (U ++ A0):=by rw [e4]; exact wJ (List.mem_append_left _ m1)
 have F4:Fx H0 A0 U H4:=by rw [e4]; exact F.put m1 _
 have tp:∀ p xs,cx H p xs->cx H4 p xs:=fun p xs h=>by rw [e4]; exact h.ne (h.apart m2 trivial)
 clear e4
 have MY:∀ p∈qs,(p.1=q.1↔p.2.1=q.2.1):=fun p hp=>⟨fun z=>by rw [rE g.kn hp hq z],fun z=>by rw [rE g.nd hp hq z]⟩
 have R4:Rel K [] U A0 σ δ H4:=⟨R.len,fun j d hj e=>by rw [hw]; exact R.fz j d hj e,fun j d hj=>(by simp at hj),fun j k d e l hj=>(by simp at hj),fun c hc=>by
   by_cases ca:c=q.2.1
   ·rw [ca]; exact ⟨_,MX,trivial⟩
   ·rw [ne4 c ca]; exact R.al.1 c hc,fun p xs m=>tp p xs (R.al.2 p xs m)⟩
 obtain ⟨up,P0⟩:∃ up:Gq->Gq,up=fun p=>if p.2.1=q.2.1 then (p.1,p.2.1,q.2.2.1 ++ [v],q.2.2.2 ++ [d]) else p:=⟨_,rfl⟩
 have u1:∀ p,(up p).1=p.1 /\ (up p).2.1=p.2.1:=fun p=>by rw [P0]; dsimp only; split <;> exact ⟨rfl,rfl⟩
 refine ⟨R4,F4,qs.map up,⟨?_,g.K9,?_,?_,fun p hp=>?_⟩,?_⟩
 ·have na:a≠q.2.1:=fun z=>by rw [<- z,g.at'] at m2; cases m2
  rw [ne4 a na,g.at',AS,AS,List.map_map]
  exact congrArg (fun l=>some (HO.dT l)) (List.map_congr_left fun p _=>by show _=((up p).1,V.ref (up p).2.1); rw [(u1 p).1,(u1 p).2])
 ·rw [List.map_map,show (fun q:Gq=>q.2.1) ∘ up=fun q=>q.2.1 from funext fun p=>(u1 p).2]; exact g.nd
 ·rw [List.map_map,show (fun q:Gq=>q.1) ∘ up=fun q=>q.1 from funext fun p=>(u1 p).1]; exact g.kn
 ·obtain ⟨p0,Xb,rfl⟩:=List.mem_map.mp hp
  obtain ⟨n1,n2,n3⟩:=g.ls p0 Xb
  rw [hw,P0]
  dsimp only
  split
  ·rename_i z
   exact ⟨n1,by show H4 p0.2.1=_; rw [z]; exact MX,m3.app (.cons hv .nil)⟩
  ·rename_i z
   exact ⟨n1,by rw [ne4 _ z]; exact n2,n3⟩
 ·unfold jC
  rw [List.map_map,List.map_map]
  refine List.map_congr_left fun p hp=>?_
  have hj:keyOf (.tuple (p.1.map fJ))=some p.1:=d6 p.1
  show (PyData.tuple ((up p).1.map fJ),PyData.list (up p).2.2.2)=if keyOf (.tuple (p.1.map fJ))=some q.1 then (PyData.tuple (p.1.map fJ),PyData.list (q.2.2.2 ++ [d])) else (PyData.tuple (p.1.map fJ),PyData.list p.2.2.2)
  rw [hj,(u1 p).1,P0]
  dsimp only
  by_cases z:p.1=q.1
  ·rw [if_pos ((MY p hp).mp z),if_pos (by rw [z])]
  ·rw [if_neg fun y=>z ((MY p hp).mpr y),if_neg fun y=>z (Option.some.inj y)]
section
variable {X:Cx} {i:Nat} {st:Stmt} {gk ge:DS->Option D}
set_option tactic.hygienic true in
theorem FY (h:PS X st (BU (qg i) (g0 X.K [] gk) (tN X.K [] (cN ah)))):PS X st (J0 X.K i (zm gk)):=h.mono fun E σ H z=>Di z fun H0 U A0 δ qs a r t=>by
 have R:=t.R
 have F:=t.F
 have g:=t.g
 obtain ⟨y,e1,e2⟩:=bind1 t.ef
 obtain ⟨k,e3,e4⟩:=bind1 e2
 split at e4
 ·rename_i hz
  cases e4
  refine ⟨U,A0,δ,[],R,rfl,fun r ys H1 s1 hr h1 h2=>⟨.ref a,t.hi,U,A0,δ,y,R.same s1,e1,fun v2 H2 s2 h3=>?_⟩⟩
  cases h2
  obtain ⟨b,rfl,hb⟩:=h3.key e3
  have FX:=s1.trans s2
  have hlen:(AS qs).length < sizeLine:=by
   have:=hz.1
   rw [jC,List.length_map] at this
   rw [AS,List.length_map]
   exact rZ (by omega)
  refine ⟨a,_,rfl,z8.t (g.same FX).at' hb hlen,?_⟩
  obtain ⟨R4,F4,g4⟩:=g.add R F FX hr (s2 _ _ h1) ((zl (qs:=qs)).1 hz.2) rfl
  exact t.P _ σ _ _ R4 F4 t.hi g4 (by unfold jC; rw [List.map_append]; rfl)
 ·cases e4
set_option tactic.hygienic true in
theorem FZ (h:PS X st (yB (NH X.K "list" rW (Hm (qg i) (g0 X.K [] gk)) (yE (tE X.K [] ge) EZ)))):PS X st (J0 X.K i (rF gk ge)):=h.mono fun E σ H z=>Di z fun H0 U A0 δ qs a r t=>by
 have R:=t.R
 have F:=t.F
 have g:=t.g
 obtain ⟨y,e1,e2⟩:=bind1 t.ef
 obtain ⟨d,e3,e4⟩:=bind1 e2
 obtain ⟨k,e5,e6⟩:=bind1 e4
 obtain ⟨x,e7,e8⟩:=bind1 e6
 obtain ⟨q,hq,rfl,rfl,Ap⟩:=(zl (qs:=qs)).2 x e7
 have e8:(if q.2.2.2.length < 100000 then some (δ,(jC qs).map fun p=>if keyOf p.1=some q.1 then (p.1,.list (q.2.2.2 ++ [d])) else p) else none)=some r:=e8
 split at e8
 ·rename_i hz
  cases e8
  refine ⟨.ref a,t.hi,U,A0,δ,y,R,e1,fun v2 H2 s2 h3=>?_⟩
  obtain ⟨b,rfl,hb⟩:=h3.key e5
  have g2:=g.same s2
  refine ⟨a,.ref q.2.1,rfl,by rw [<- Ap]; exact qo.t g2.at' hb,.inl ⟨rfl,q.2.2.1,fY.of (g2.ls q hq).2.1⟩,U,A0,δ,d,R.same s2,e3,fun v H' s hv=>?_⟩
  have g3:=g2.same s
  have hlen:=(g3.ls q hq).2.2.len
  refine ⟨q.2.1,q.2.2.1,v,rfl,rfl,(g3.ls q hq).2.1,rZ (by omega),?_⟩
  obtain ⟨R4,F4,HW,g4,k4⟩:=g3.up (R.same (s2.trans s)) (F.grow (s2.trans s)) hq hv rfl
  exact t.P _ σ _ _ R4 F4 t.hi g4 k4
 ·cases e8
end
def xx (gt:D->DS->Option DS) (f:DS->List (D×D)->Option (DS×List (D×D))):List D->DS->List (D×D)->Option (DS×List (D×D))
 | [],δ,kds=>some (δ,kds)
 | d :: ds,δ,kds=>(gt d δ).bind fun dZ=>(f dZ kds).bind fun r=>xx gt f ds r.1 r.2
def AU (gi:DS->Option (List D)) (gt:D->DS->Option DS) (f:DS->List (D×D)->Option (DS×List (D×D))):DS->List (D×D)->Option (DS×List (D×D)):=fun δ kds=>(gi δ).bind fun ds=>xx gt f ds δ kds
def J1 (K:PySem.W.Frag) (i:Nat) (g:TG) (gt:D->DS->Option DS):Prop:=∀ (U A0:List Addr) (σ:St) (δ δ':DS) (H:Hp) (v:V) (d:D) (Q:St->Hp->Prop),Rel K [] U A0 σ δ H->HD K (wo H (U ++ A0)) v d->gt d δ=some δ'->
 (∀ bM,Rel K [] U A0 bM δ' H->bM[i]?=σ[i]?->Q bM H)->g v σ H Q
theorem AV {K:PySem.W.Frag} {i j:Nat} (h:j≠i):J1 K i (eX j) (aE j):=fun U A0 σ δ δ' H v d Q R hd e q=>by
 cases e
 exact q _ (R.set (by simp) hd) (List.getElem?_set_ne h)
theorem Dj {j k:Nat} {d:D} {δ δ':DS} (e:fU 2 (bJ (aE j) (bJ (aE k) gK)) d δ=some δ'):∃ x y,d=.tuple [x,y] /\ δ'=(δ.set j (some x)).set k (some y):=by
 cases d with
 | tuple ds=>
   cases ds with
   | nil=>cases e
   | cons x ds=>
     cases ds with
     | nil=>cases e
     | cons y ds=>
       cases ds with
       | nil=>cases e; exact ⟨x,y,rfl,rfl⟩
       | cons _ _=>cases e
 | _=>cases e
theorem P4 {K:PySem.W.Frag} {H:Hp} {xs:List V} {x y:D} (h:cy K H xs [x,y]):∃ u v,xs=[u,v] /\ HD K H u x /\ HD K H v y:=by
 cases h with
 | cons a h=>cases h with
   | cons b h=>cases h; exact ⟨_,_,rfl,a,b⟩
theorem AW {K:PySem.W.Frag} {i j k:Nat} (h:j≠i) (h2:k≠i):J1 K i (Lv K 2 (BA (eX j) (BA (eX k) Lu))) (fU 2 (bJ (aE j) (bJ (aE k) gK))):=fun U A0 σ δ δ' H v d Q R hd e q=>by
 obtain ⟨x,y,rfl,rfl⟩:=Dj e
 obtain ⟨a,xs,rfl,h1,h3⟩:=(gg.of hd).tuple
 obtain ⟨u,w,rfl,hx,hy⟩:=P4 h3
 exact ⟨a,_,rfl,h1,rfl,_,_,rfl,_,_,rfl,rfl,q _ ((R.set (by simp) hx).set (by simp) hy) ((List.getElem?_set_ne h2).trans (List.getElem?_set_ne h))⟩
structure GI (K:PySem.W.Frag) (i:Nat) (gt:D->DS->Option DS) (f:DS->List (D×D)->Option (DS×List (D×D))) (ds:List D) (H0 H1:Hp) (U A0:List Addr) (a:Addr) (r:DS×List (D×D)) (j:Nat) (σ:St) (H:Hp) (U2:List Addr) (δ:DS) (qs:List Gq):Prop where
 le:j<=ds.length
 R:Rel K [] U2 A0 σ δ H
 F:Fx H0 A0 U2 H
 G:Fx (wo H1 U) A0 U2 H
 hi:σ[i]?=some (some (.ref a))
 g:zk K U2 A0 H a qs
 ef:xx gt f (ds.drop j) δ (jC qs)=some r
def MZ (K:PySem.W.Frag) (i:Nat) (gt:D->DS->Option DS) (f:DS->List (D×D)->Option (DS×List (D×D))) (ds:List D) (H0 H1:Hp) (U A0:List Addr) (a:Addr) (r:DS×List (D×D)) (j m:Nat) (σ:St) (H:Hp):Prop:=
 m=ds.length - j /\ ∃ U2 δ qs,GI K i gt f ds H0 H1 U A0 a r j σ H U2 δ qs
section
variable {X:Cx} {i:Nat} {st:Stmt} {tg iter:Expr} {pos:Pos} {gi:DS->Option (List D)} {gt:D->DS->Option DS} {g:TG} {f:DS->List (D×D)->Option (DS×List (D×D))}
theorem zo (hp:PassesOwn (model X.prog X.w) X.A X.env X.xe) (hc:X.calm=true) (hi:PI X tg iter (tI X.K [] gi)) (hg:PG X tg g) (ht:J1 X.K i g gt) (hb:PS X st (J0 X.K i f))
  (hs:∀ x,foldedSetIterable iter X.env x=pure x:=by intro _; rfl):PS X (.For tg iter [st] [] pos) (J0 X.K i (AU gi gt f)):=(BF hp hc hi hg (rN hb) hs).mono fun E σ H z=>Di z fun H0 U A0 δ qs a r t=>by
 obtain ⟨ds,e1,e2⟩:=bind1 t.ef
 refine ⟨U,A0,δ,ds,t.R,e1,fun J H1 s hw=>⟨MZ X.K i gt f ds H0 H1 U A0 a r,⟨ds.length,by simp,U,δ,qs,Nat.zero_le _,t.R.same s,t.F.grow s,(t.F.grow s).here,t.hi,t.g.same s,by simpa using e2⟩,?_⟩⟩
 have P:=t.P
 clear t e1 e2 z
 rintro j m σ H ⟨rfl,U2,δ,qs,w⟩
 obtain ⟨Jj,oW⟩:=hw (U2 ++ A0) j H w.G.keeps w.R.al
 have ef:=w.ef
 by_cases g5:j < ds.length
 ·obtain ⟨go,hy⟩:=Jj _ (List.getElem?_eq_getElem g5)
  rw [List.drop_eq_getElem_cons g5,xx] at ef
  obtain ⟨dZ,e3,e4⟩:=bind1 ef
  obtain ⟨q,e5,e6⟩:=bind1 e4
  refine .inr ⟨go,MZ X.K i gt f ds H0 H1 U A0 a r (j + 1) (ds.length - (j + 1)),fun _ _ h=>⟨_,Nat.sub_lt_sub_left g5 (Nat.lt_succ_self j),h⟩,fun x H2 y=>?_⟩
  obtain ⟨s2,hx⟩:=hy x H2 y
  refine ht U2 A0 σ δ dZ H2 x _ _ (w.R.same s2) hx e3 fun bM R' Xc=>?_
  have F3:=w.F.grow s2
  exact ⟨wo H2 U2,U2,A0,dZ,qs,a,q,R',F3.here,Xc.trans w.hi,w.g.same s2,e5,fun U' bM H' HW R' F' h1 h2 h3=>⟨rfl,U',q.1,HW,g5,R',F3.trans F',(w.G.grow s2).trans F',h1,h2,by rw [h3]; exact e6⟩⟩
 ·have hj:j=ds.length:=Nat.le_antisymm w.le (Nat.le_of_not_lt g5)
  subst hj
  rw [List.drop_length,xx] at ef
  cases ef
  exact .inl ⟨oW rfl,P U2 σ H qs w.R w.F w.hi w.g rfl⟩
end
def P5:D->Bool
 | .dict []=>true
 | _=>false
def nZ (i:Nat) (f1 f2:DS->List (D×D)->Option (DS×List (D×D))) (gl:DS->Option (List D)):DS->Option Res:=fun δ=>(af i δ).bind fun x=>if P5 x=true then (f1 (δ.set i none) []).bind fun r=>(f2 r.1 r.2).bind fun q=>(gl (q.1.set i (some (.dict q.2)))).bind fun l=>some (.rt (.list l)) else none
theorem Rel.drop {K:PySem.W.Frag} {U A0:List Addr} {σ:St} {δ:DS} {H:Hp} {i:Nat} (R:Rel K [i] U A0 σ δ H):Rel K [] U A0 σ (δ.set i none) H where
 len:=by rw [List.length_set]; exact R.len
 fz:=fun j d _ e=>by
  by_cases h:i=j
  ·subst h
   have hl:i < δ.length:=by have:=(List.getElem?_eq_some_iff.mp e).1; rwa [List.length_set] at this
   rw [List.getElem?_set_self hl] at e; cases e
  ·rw [List.getElem?_set_ne h] at e
   exact R.fz j d (by simpa using Ne.symm h) e
 ow:=fun j d hj=>by simp at hj
 inj:=fun j k d e l hj=>by simp at hj
 al:=R.al
theorem AX {K:PySem.W.Frag} {H:Hp} {qs:List Gq} (h:∀ q∈qs,H q.2.1=some (.lst q.2.2.1) /\ cy K H q.2.2.1 q.2.2.2):cy K H ((AS qs).map (·.2)) ((jC qs).map (·.2)):=by
 induction qs with
 | nil=>exact .nil
 | cons q qs ih=>
   obtain ⟨h1,h2⟩:=h q List.mem_cons_self
   exact .cons (.lst (.of h1) h2) (ih fun p hp=>h p (List.mem_cons_of_mem _ hp))
theorem Rel.P6 {K:PySem.W.Frag} {U A0:List Addr} {σ:St} {δ:DS} {H H0:Hp} {i:Nat} {a:Addr} {qs:List Gq} (R:Rel K [] U A0 σ δ H) (F:Fx H0 A0 U H) (M0:σ[i]?=some (some (.ref a))) (g:zk K U A0 H a qs):Rel K [] [] A0 σ (δ.set i (some (.dict (jC qs)))) H:=by
 have sm:az (wo H (U ++ A0)) (wo H ([] ++ A0)):=fR fun b hb=>List.mem_append_right _ hb
 have out:∀ b∈U,∀ o,H b=some o->wo H ([] ++ A0) b=some o:=fun b hb o e=>by rw [bp (show b∉[] ++ A0 from F.out hb)]; exact e
 exact {
  len:=by rw [List.length_set]; exact R.len
  fz:=fun j d _ e=>by
   by_cases h:i=j
   ·subst h
    have hl:i < δ.length:=by have:=(List.getElem?_eq_some_iff.mp e).1; rwa [List.length_set] at this
    rw [List.getElem?_set_self hl] at e
    cases e
    refine ⟨_,M0,.mj (out a g.K9 _ g.at') ?_ (AX fun q hq=>⟨out _ (g.ls q hq).1 _ (g.ls q hq).2.1,(g.ls q hq).2.2.same sm⟩)⟩
    unfold jC AS
    rw [List.map_map,List.map_map]; rfl
   ·rw [List.getElem?_set_ne h] at e
    obtain ⟨v,e1,e2⟩:=R.fz j d (by simp) e
    exact ⟨v,e1,e2.same sm⟩
  ow:=fun j d hj=>by simp at hj
  inj:=fun j k d e l hj=>by simp at hj
  al:=⟨fun b hb=>R.al.1 b (List.mem_append_right _ hb),R.al.2⟩ }
theorem Rel.empty {K:PySem.W.Frag} {U A0:List Addr} {σ:St} {δ:DS} {H:Hp} {i:Nat} {x:D} (R:Rel K [i] U A0 σ δ H) (e:δ[i]?=some (some x)) (hx:P5 x=true):∃ a,σ[i]?=some (some (.ref a)) /\ zk K U A0 H a []:=by
 obtain ⟨a,o,M0,hU,ho,how⟩:=R.ow i x (by simp) e
 cases how with
 | lst _=>cases hx
 | @mj aK kds kk _=>
   cases kds with
   | cons _ _=>cases hx
   | nil=>
     cases aK with
     | nil=>exact ⟨a,M0,ho,hU,.nil,.nil,fun q hq=>by simp at hq⟩
     | cons _ _=>cases kk
section
variable {X:Cx} {i:Nat} {EH gz:Stmt} {e:Expr} {pos:Pos} {f1 f2:DS->List (D×D)->Option (DS×List (D×D))} {gl:DS->Option (List D)}
set_option tactic.hygienic true in
theorem AY {xk:Str->Hp->Prop} (h1:PS X EH (J0 X.K i f1)) (h2:PS X gz (J0 X.K i f2)) (h3:PE X e (tN X.K [] gl)):ji X [EH,gz,.Return (some e) pos] (tS X.K [i] (true,xk) (nZ i f1 f2 gl)):=(om h1 (om h2 (rN (oo h3)))).mono<|by
 rintro E σ H ⟨H0,U,A0,δ,r,R,F,ed,P⟩
 obtain ⟨x,e1,e2⟩:=bind1 ed
 split at e2
 ·rename_i hx
  obtain ⟨r1,e3,e4⟩:=bind1 e2
  obtain ⟨r2,e5,e6⟩:=bind1 e4
  obtain ⟨l,e7,e8⟩:=bind1 e6
  cases e8
  obtain ⟨a,M0,g⟩:=R.empty (join_some e1) hx
  refine ⟨H0,U,A0,δ.set i none,[],a,r1,R.drop,F,M0,g,e3,fun U1 Ha H1 Xd R1 F1 s1 g1 k1=>?_⟩
  refine ⟨H0,U1,A0,r1.1,Xd,a,r2,R1,F1,s1,g1,by rw [k1]; exact e5,fun U2 Uz H2 ZN R2 F2 s2 g2 k2=>?_⟩
  refine ⟨[],A0,_,l,R2.P6 F2 s2 g2,by rw [k2]; exact e7,fun r ys H3 s hr h4 h5=>P.1 (.ref r) H3 ?_⟩
  unfold iA
  rw [if_pos rfl]
  exact ⟨r,_,rfl,F2.same.trans s,F2.same.free hr,h4,.lst h5⟩
 ·cases e2
end
end L2
namespace L2
open PySem PySem.Spec PySem.W PyProof.Rows
def kK (g:DS->Option D) (ix:List Nat) (ge:DS->Option D):DS->Option Res:=fun δ=>(g δ).bind fun d=>match qB d with
 | some _=>some (.rt d)
 | none=>(match d with
   | .list ds=>if ds.length<=100000 then (lM (fun d=>ge (some d :: c5 ix δ)) ds).bind fun xs=>some (.rt (.list xs)) else none
   | _=>none)
theorem xy {K:Frag} {A:List Addr} {H1:Hp} {l:Addr} {ds:List D} (h:HD K (wo H1 A) (.ref l) (.list ds)):(∃ xs,fY K H1 l xs) /\ Walks K A H1 (Oq K l) ds:=by
 cases h with
 | lst hq h=>
   refine ⟨⟨_,(hq.same bH).sq⟩,?_⟩
   intro A' i H2 s2 _
   have wQ:=hq.same s2
   have h2:=h.same s2
   have hL:fY K H2 _ _:=(wQ.same bH).sq
   refine ⟨fun d hd=>?_,fun hi=>⟨_,hL,by rw [h2.len]; omega⟩⟩
   obtain ⟨x,hx,Ml⟩:=h2.get hd
   refine ⟨⟨_,x,hL,hx⟩,fun y H3 hy=>?_⟩
   obtain ⟨rfl,hy⟩:=hy
   have:=hy _ hL
   rw [hx] at this
   cases this
   exact ⟨az.refl _,Ml⟩
section
variable {X:Cx} {O:List Nat} {E:XK} {n:Nat} {scope:Scope} {x:Str} {elt iter:Expr} {px pos P7:Pos} {gr:DS->Option (List D)} {G:List D->Option D} {ge:DS->Option D}
set_option tactic.hygienic true in
theorem F0 {K:Frag} {mg:Str->Option Value} {σ:St} {δ:DS} {H:Hp} {Q:VK} {U A0:List Addr} {ds:List D} (R:Rel K O U A0 σ δ H) (e:aC G n gr δ=some (.list ds)) (qn:∀ v H',az H H'->HD K (wo H' (U ++ A0)) v (.list ds)->Q v H'):lA (lW K mg n G) [] E (oO K O gr) σ H Q:=by
 obtain ⟨as,e1,e2⟩:=bind1 e
 split at e2
 ·rename_i hn
  refine ⟨U,A0,δ,as,R,e1,fun vs H' s h=>?_⟩
  show lW K mg n G (vs ++ []) H' Q E
  rw [List.append_nil]
  refine ⟨by rw [h.len]; exact hn,U ++ A0,as,_,(R.same s).al,h,e2,fun v H2 hv=>?_,fun c H2 ed _=>nomatch ed⟩
  unfold iA at hv
  rw [if_pos rfl] at hv
  obtain ⟨l,o,rfl,s2,hr,ho,how⟩:=hv
  cases how with
  | lst q=>exact qn _ H2 (s.trans s2) (.lst (.of (by rw [bp ((R.same s).al.free hr)]; exact ho)) (q.same (fR fun a ha=>List.mem_cons_of_mem _ ha)))
 ·cases e2
def mM (i:Nat) (g:DS->Option D):DS->Option Res:=fun δ=>(g δ).bind (HV i δ)
set_option tactic.hygienic true in
theorem Dk {i:Nat} {st:Stmt} {b:Bool} (h:PS X st (mq (lA (lW X.K X.mg n G) [] E (oO X.K O gr)) (eX i))) (hi:i∉O:=by decide):PS X st (tS X.K O (b,qC X.mg E) (mM i (aC G n gr))):=h.mono<|by
 rintro D σ H ⟨H0,U,A0,δ,r,R,F,ed,P⟩
 obtain ⟨d,e1,e2⟩:=bind1 ed
 unfold HV at e2
 split at e2
 ·rename_i c hx
  cases j5 hx
  cases e2
  obtain ⟨ds,e3,e4⟩:=bind1 e1
  split at e4
  rotate_left
  ·cases e4
  rename_i hn
  refine ⟨U,A0,δ,ds,R,e3,fun vs H1 s1 h1=>?_⟩
  show lW X.K X.mg n G (vs ++ []) H1 _ E
  rw [List.append_nil]
  refine ⟨by rw [h1.len]; exact hn,U ++ A0,ds,_,(R.same s1).al,h1,e4,fun v H2 hv=>(uY hv).elim,fun c2 H2 hd s2=>P.2 c2 H2 hd (F.same.trans (s1.trans s2))⟩
 ·split at e2
  ·cases e2
   exact F0 R e1 fun v H' s hv=>P U _ H' ((R.same s).set hi hv) (F.grow s)
  ·cases e2
set_option tactic.hygienic true in
theorem u5 (sc:Scope) (N:List Str) (ix:List Nat) (N':List Str) (h:PE X iter (lA (lW X.K X.mg n G) [] E (oO X.K O gr))) (iS:∀ cl C s2 H2 fp pins,PE (aQ X scope N' cl C s2 H2 fp pins) elt (tE X.K [] ge)) (uB:∀ j∈ix,j∉O:=by decide) (hk:nT sc scope N x ix N'=true:=by decide +kernel) (hN:N'.Nodup:=by decide +kernel)
  (e1:X.env.scope=sc:=by rfl) (e2:X.N=N:=by rfl) (hc:X.calm=true:=by rfl) (hs:∀ x,foldedSetIterable iter X.env x=pure x:=by intro _; rfl):PS X (.Return (some (.ListComp elt [⟨.Name x px,iter,[],0⟩] scope pos)) P7) (tS X.K O (false,qC X.mg E) (kK (aC G n gr) ix ge)):=
 (oo (Fj sc N ix N' (Cg h) iS hk hN e1 e2 hc hs)).mono<|by
 rintro D σ H ⟨H0,U,A0,δ,r,R,F,ed,P⟩
 obtain ⟨d,e1,e2⟩:=bind1 ed
 obtain ⟨ds,e3,e4⟩:=bind1 e1
 split at e4
 rotate_left
 ·cases e4
 rename_i hn
 refine ⟨U,A0,δ,ds,R,e3,fun vs H1 s1 h1=>?_⟩
 show lW X.K X.mg n G (vs ++ []) H1 _ E
 rw [List.append_nil]
 refine ⟨by rw [h1.len]; exact hn,U ++ A0,ds,d,(R.same s1).al,h1,e4,fun v H2 hv=>?_,fun c H2 hd s2=>?_⟩
 ·unfold iA at hv
  rw [if_pos rfl] at hv
  obtain ⟨l,o,rfl,s2,hr,ho,how⟩:=hv
  cases how with
  | @lst ys KR q=>
    have e5:(if KR.length<=100000 then (lM (fun d=>ge (some d :: c5 ix δ)) KR).bind fun xs=>some (Res.rt (.list xs)) else none)=some r:=e2
    split at e5
    rotate_left
    ·cases e5
    rename_i hl
    obtain ⟨xs,e6,e7⟩:=bind1 e5
    cases e7
    have R2:=R.same (s1.trans s2)
    have L5:=(R.same s1).al.free hr
    have hd:HD X.K (wo H2 (U ++ A0)) (.ref l) (.list KR):=.lst (.of (by rw [bp L5]; exact ho)) (q.same (fR fun a ha=>List.mem_cons_of_mem _ ha))
    obtain ⟨Xe,hw⟩:=xy hd
    refine .inl ⟨l,rfl,Xe,Ci R2 (az.refl _) uB hw hl e6 fun r ys H3 s3 Xf h3 h4=>P.1 _ H3 ?_⟩
    unfold iA
    rw [if_neg Bool.false_ne_true]
    have Xg:=R2.al.free Xf
    have Xh:HD X.K (wo H3 (U ++ A0)) (.ref r) (.list xs):=.lst (.of (by rw [bp Xg]; exact h3)) (h4.same (fR fun a ha=>List.mem_cons_of_mem _ ha))
    exact ⟨F.same.trans ((s1.trans s2).trans s3),Xh.same (fR fun a ha=>List.mem_append_right _ ha)⟩
  | mj k q=>
    split at e2
    ·rename_i c hx
     have hd:=j5 hx
     cases hd
     exact (nY k fun _ z=>nomatch z).elim
    ·cases e2
 ·subst hd
  have e5:some (Res.rt (mB c))=some r:=e2
  cases e5
  exact P.2 c H2 rfl (F.same.trans (s1.trans s2))
end
end L2
namespace Q1
structure ny (n d t b:Int):Prop where
 pos:1<=d
 Dl:Int.gcd n d=1
 eq:n * b=t * d
theorem sM {a b:Int}:Int.gcd a b=1↔Nat.Coprime a.natAbs b.natAbs:=Iff.rfl
theorem eR {a b:Int} (h:Int.gcd a b=1):Int.gcd b a=1:=by rw [Int.gcd_comm]; exact h
theorem n0 {a b c:Int} (h1:Int.gcd a c=1) (h2:Int.gcd b c=1):Int.gcd (a * b) c=1:=by
 rw [sM] at *
 rw [Int.natAbs_mul]
 exact Nat.Coprime.mul_left h1 h2
theorem lX {a b c:Int} (h1:Int.gcd a b=1) (h2:Int.gcd a c=1):Int.gcd a (b * c)=1:=eR (n0 (eR h1) (eR h2))
theorem n4 {a b c:Int} (h:Int.gcd b c=1) (d:a ∣ b):Int.gcd a c=1:=by
 rw [sM] at *
 exact Nat.Coprime.coprime_dvd_left (Int.natAbs_dvd_natAbs.mpr d) h
theorem lY {a b c:Int} (h:Int.gcd c b=1) (d:a ∣ b):Int.gcd c a=1:=eR (n4 (eR h) d)
theorem i4 {a b c:Int} (h:Int.gcd a b=1) (d:a ∣ b * c):a ∣ c:=by
 rw [sM] at h
 rw [<- Int.natAbs_dvd_natAbs] at *
 rw [Int.natAbs_mul] at d
 exact Nat.Coprime.dvd_of_dvd_mul_left h d
theorem ny.n5 {n d t b:Int} (h:ny n d t b):n ∣ t:=i4 h.Dl ⟨b,by rw [h.eq]; exact Int.mul_comm _ _⟩
theorem ny.sN {n d t b:Int} (h:ny n d t b):d ∣ b:=i4 (eR h.Dl) ⟨t,by rw [h.eq]; exact Int.mul_comm _ _⟩
theorem bK {a b:Int} (h:a ∣ b) (hb:b≠0):a.natAbs<=b.natAbs:=Nat.le_of_dvd (by omega) (Int.natAbs_dvd_natAbs.mpr h)
theorem ny.xA {n d t b:Int} (h:ny n d t b) (hb:b≠0):n.natAbs<=t.natAbs:=by
 by_cases ht:t=0
 ·have e:=h.eq
  rw [ht,Int.zero_mul] at e
  rcases Int.mul_eq_zero.mp e with z | z
  ·rw [z,ht]; exact Nat.le_refl _
  ·exact absurd z hb
 ·exact bK h.n5 ht
theorem ny.bot_le {n d t b:Int} (h:ny n d t b) (hb:b≠0):d.natAbs<=b.natAbs:=bK h.sN hb
theorem ny.uniq {n d n' d' t b:Int} (h:ny n d t b) (h':ny n' d' t b) (hb:b≠0):n=n' /\ d=d':=by
 have e:n * d'=n' * d:=by
  have e1:=h.eq
  have e2:=h'.eq
  have:b * (n * d')=b * (n' * d):=by grind
  exact Int.eq_of_mul_eq_mul_left hb this
 have hd:d=d':=by
  have a1:d ∣ d':=i4 (eR h.Dl) ⟨n',by rw [e]; exact Int.mul_comm _ _⟩
  have a2:d' ∣ d:=i4 (eR h'.Dl) ⟨n,by rw [<- e]; exact Int.mul_comm _ _⟩
  have p:=h.pos
  have p':=h'.pos
  have b1:=bK a1 (by omega)
  have b2:=bK a2 (by omega)
  omega
 subst hd
 have p:=h.pos
 exact ⟨Int.eq_of_mul_eq_mul_right (by omega) e,rfl⟩
theorem rG {t b:Int} (hb:b≠0):∃ t' b':Int,0 < (Int.gcd t b:Int) /\ t=t' * (Int.gcd t b:Int) /\ b=b' * (Int.gcd t b:Int) /\ Int.gcd t' b'=1:=by
 have hp:0 < Int.gcd t b:=Int.gcd_pos_of_ne_zero_right _ hb
 refine ⟨t / (Int.gcd t b:Int),b / (Int.gcd t b:Int),by omega,(Int.ediv_mul_cancel (Int.gcd_dvd_left _ _)).symm,(Int.ediv_mul_cancel (Int.gcd_dvd_right _ _)).symm,Int.gcd_ediv_gcd_ediv_gcd hp⟩
def dv (t b:Int):Int:=if b < 0 then -(Int.gcd t b:Int) else (Int.gcd t b:Int)
theorem M1 {t b:Int} (hb:b≠0):dv t b≠0:=by
 have hp:0 < Int.gcd t b:=Int.gcd_pos_of_ne_zero_right _ hb
 unfold dv; split <;> omega
theorem F5 {t b:Int} (hb:b≠0):ny (t.fdiv (dv t b)) (b.fdiv (dv t b)) t b:=by
 obtain ⟨t',b',hp,et,eb,c⟩:=rG (t:=t) hb
 unfold dv
 generalize (Int.gcd t b:Int)=g at *
 subst et eb
 by_cases hs:b' * g < 0
 ·rw [if_pos hs]
  have e1:(t' * g).fdiv (-g)= -t':=by
   have:t' * g=(-t') * (-g):=by grind
   rw [this]; exact Int.mul_fdiv_cancel _ (by omega)
  have e2:(b' * g).fdiv (-g)= -b':=by
   have:b' * g=(-b') * (-g):=by grind
   rw [this]; exact Int.mul_fdiv_cancel _ (by omega)
  rw [e1,e2]
  have FH:b' < 0:=by
   rcases Int.lt_trichotomy b' 0 with z | z | z
   ·exact z
   ·subst z; simp at hb
   ·have:=Int.mul_pos z hp; omega
  refine ⟨by omega,?_,by grind⟩
  rw [Int.neg_gcd,Int.gcd_neg]; exact c
 ·rw [if_neg hs]
  rw [Int.mul_fdiv_cancel _ (by omega),Int.mul_fdiv_cancel _ (by omega)]
  have FH:0 < b':=by
   rcases Int.lt_trichotomy b' 0 with z | z | z
   ·exact absurd (Int.mul_neg_of_neg_of_pos z hp) hs
   ·subst z; simp at hb
   ·exact z
  exact ⟨by omega,c,by grind⟩
theorem Dm {n1 d1 n2 d2 l0 l1 r0 r1:Int} (h1:Int.gcd n1 d1=1) (h2:Int.gcd n2 d2=1) (hl:ny l0 l1 n1 d2) (hr:ny r0 r1 n2 d1):ny (l0 * r0) (l1 * r1) (n1 * n2) (d1 * d2):=by
 have p1:=hl.pos
 have p2:=hr.pos
 have e1:=hl.eq
 have e2:=hr.eq
 refine ⟨?_,n0 (lX hl.Dl ?_) (lX ?_ hr.Dl),?_⟩
 ·have:=Int.mul_pos (show 0 < l1 by omega) (show 0 < r1 by omega); omega
 ·exact n4 (lY h1 hr.sN) hl.n5
 ·exact n4 (lY h2 hl.sN) hr.n5
 ·grind
theorem nz {a b c p:Int} (h:Int.gcd (a * b) p=1):Int.gcd (a * b + c * p) p=1:=by
 rw [Int.gcd_add_mul_right_left]
 exact h
theorem F6 {n1 d1 n2 d2 g p1 p2 r0 r1:Int} (h1:Int.gcd n1 d1=1) (h2:Int.gcd n2 d2=1) (w5:1<=d1) (hd2:1<=d2) (hg:0 < g) (e1:d1=p1 * g) (e2:d2=p2 * g) (hc:Int.gcd p1 p2=1) (hr:ny r0 r1 (n1 * p2 + n2 * p1) g):
  ny r0 (p1 * p2 * r1) (n1 * d2 + n2 * d1) (d1 * d2):=by
 have p:=hr.pos
 have q1:0 < p1:=by
  rcases Int.lt_trichotomy p1 0 with z | z | z
  ·have:=Int.mul_neg_of_neg_of_pos z hg; omega
  ·subst z; simp at e1; omega
  ·exact z
 have q2:0 < p2:=by
  rcases Int.lt_trichotomy p2 0 with z | z | z
  ·have:=Int.mul_neg_of_neg_of_pos z hg; omega
  ·subst z; simp at e2; omega
  ·exact z
 have c1:Int.gcd n1 p1=1:=lY h1 ⟨g,e1⟩
 have c2:Int.gcd n2 p2=1:=lY h2 ⟨g,e2⟩
 have t1:Int.gcd (n1 * p2 + n2 * p1) p1=1:=nz (n0 c1 (eR hc))
 have t2:Int.gcd (n1 * p2 + n2 * p1) p2=1:=by rw [Int.add_comm]; exact nz (n0 c2 hc)
 refine ⟨?_,?_,?_⟩
 ·have a:=Int.mul_pos q1 q2
  have b:=Int.mul_pos a (show 0 < r1 by omega)
  omega
 ·exact lX (n4 (lX t1 t2) hr.n5) hr.Dl
 ·have e:=hr.eq
  subst e1 e2
  grind
end Q1
namespace Q1
def cj (t b:Int):Int×Int:=(t.fdiv (dv t b),b.fdiv (dv t b))
theorem cU {t b:Int} (hb:b≠0):ny (cj t b).1 (cj t b).2 t b:=F5 hb
theorem ny.qm {n d t b:Int} (h:ny n d t b) (hb:b≠0):(n,d)=cj t b:=by
 obtain ⟨a,c⟩:=h.uniq (cU hb) hb
 exact Prod.ext a c
abbrev Qz:Int×Int:=(0,1)
def xB (a b:Int×Int):Int×Int:=cj (a.1 * b.2 + b.1 * a.2) (a.2 * b.2)
def u6 (a b:Int×Int):Int×Int:=cj (a.1 * b.1) (a.2 * b.2)
def N4 (l:List (Int×Int)) (k:Nat):Int×Int:=l.getD k Qz
def P8 (q:Int×Int):Prop:=1<=q.2 /\ Int.gcd q.1 q.2=1
theorem J2 {t b:Int} (hb:b≠0):P8 (cj t b):=⟨(cU hb).pos,(cU hb).Dl⟩
theorem lZ {t b t' b':Int} (hb:b≠0) (FH:b'≠0) (h:t * b'=t' * b):cj t b=cj t' b':=by
 have q:=cU (t:=t) hb
 refine (ny.qm (n:=(cj t b).1) (d:=(cj t b).2) ⟨q.pos,q.Dl,?_⟩ FH)
 have e:=q.eq
 refine Int.eq_of_mul_eq_mul_left hb ?_
 grind
theorem M3 (a:Int×Int) (h:P8 a):u6 a (-1,1)=(-a.1,a.2):=by
 unfold u6
 refine ((⟨h.1,by rw [Int.neg_gcd]; exact h.2,by simp⟩:ny (-a.1) a.2 (a.1 * -1) (a.2 * 1)).qm ?_).symm
 have:=h.1
 simp; omega
end Q1
namespace Q1
end Q1
namespace Q1
end Q1
namespace Q1
theorem F7 {a b c d:Int} (hb:b≠0) (hd:d≠0):u6 (cj a b) (cj c d)=cj (a * c) (b * d):=by
 have e1:=(cU (t:=a) hb).eq
 have e2:=(cU (t:=c) hd).eq
 have p1:=(cU (t:=a) hb).pos
 have p2:=(cU (t:=c) hd).pos
 unfold u6
 generalize cj a b=x at *
 generalize cj c d=y at *
 refine lZ (Int.mul_ne_zero (by omega) (by omega)) (Int.mul_ne_zero hb hd) ?_
 have:x.1 * y.1 * (b * d)=(x.1 * b) * (y.1 * d):=by grind
 rw [this,e1,e2]; grind
theorem zp {a b c d:Int} (hb:b≠0) (hd:d≠0):xB (cj a b) (cj c d)=cj (a * d + c * b) (b * d):=by
 have e1:=(cU (t:=a) hb).eq
 have e2:=(cU (t:=c) hd).eq
 have p1:=(cU (t:=a) hb).pos
 have p2:=(cU (t:=c) hd).pos
 unfold xB
 generalize cj a b=x at *
 generalize cj c d=y at *
 refine lZ (Int.mul_ne_zero (by omega) (by omega)) (Int.mul_ne_zero hb hd) ?_
 have:(x.1 * y.2 + y.1 * x.2) * (b * d)=(x.1 * b) * (y.2 * d) + (y.1 * d) * (x.2 * b):=by grind
 rw [this,e1,e2]; grind
end Q1
namespace aG
open PySem L2 Q1
abbrev bt (x:Int):Nat:=Builtin.Int.intBits x
theorem iH {m:Nat} {x:Int} (h:x.natAbs < 2 ^ m):bt x<=m:=intBits_le_iff.mpr h
theorem pB {m n:Nat} {x y:Int} (h1:bt x<=m) (h2:bt y<=n):bt (x * y)<=m + n:=intBits_mul_le h1 h2
theorem J3 {m:Nat} {x:Int} (h:bt x<=m):bt (-x)<=m:=intBits_neg_le h
theorem iI {m:Nat} {x y:Int} (h:x.natAbs<=y.natAbs) (hy:bt y<=m):bt x<=m:=intBits_le_of_natAbs h hy
theorem cc {m n:Nat} {x:Int} (h:bt x<=m) (h2:m<=n):bt x<=n:=Nat.le_trans h h2
theorem J4 {m:Nat} {x:Int} (h:bt x<=m) (k:Nat):bt (x ^ k)<=m * k + 1:=by
 have:=intBits_pow_le h k
 omega
theorem pC {m n:Nat} {x y:Int} (h1:bt x<=m) (h2:bt y<=n) (h:m + n<=134217728:=by omega):IntMulOk x y:=IntMulOk.of_le h1 h2 h
theorem zq (i:Int):(if i < 0 then -i else i)=(i.natAbs:Nat):=by split <;> omega
theorem gM {a b:Int} (h:IntMulOk a b):cG (.int a) (.int b)=some (.int (a * b)):=oP h
theorem fW {a b:Int} (h:0 < b):fb (.int a) (.int b)=some (.int (a % b)):=by
 rw [<- Int.fmod_eq_emod_of_nonneg _ (Int.le_of_lt h)]
 exact oP (C:=fun _ j=>j≠0) (by omega)
theorem rH {a b:Int} (h:0 < b) (hb:bt b<=9000):kB (.int a) (.int b)=some (.int (a / b)):=by
 rw [<- Int.fdiv_eq_ediv_of_nonneg _ (Int.le_of_lt h)]
 exact oP (C:=yK) ⟨by omega,qU hb⟩
theorem Dp {a b:Int} (h:b≠0) (hb:bt b<=9000):kB (.int a) (.int b)=some (.int (a.fdiv b)):=oP (C:=yK) ⟨h,qU hb⟩
theorem M4 {a:Int} {k:Nat} (h:a.natAbs < 2 ^ 64) (hk:k<=1000000):Ca (.int a) (.int k)=some (.int (a ^ k)):=by
 have:=oP (C:=Iu) (g:=fun i j=>.int (i ^ j.toNat)) (a:=a) (b:=k) ⟨by omega,by omega,h⟩
 simpa using this
def fT {β:Type} (x:Option β) (P:β->Prop):Prop:=∃ d,x=some d /\ P d
theorem br {β:Type} {x:Option β} {d:β} (h:fT x fun y=>y=d):x=some d:=by
 obtain ⟨y,e,rfl⟩:=h; exact e
theorem fT.mk {β:Type} {x:Option β} {P:β->Prop} {d:β} (e:x=some d) (h:P d):fT x P:=⟨d,e,h⟩
theorem j6 {a b:DS->Option Res} {δ δ':DS} (h:a δ=some (.nx δ')):aA a b δ=b δ':=by
 unfold aA; rw [h]; rfl
theorem l5 {a b:DS->Option Res} {δ:DS} {d:D} (h:a δ=some (.rt d)):aA a b δ=some (.rt d):=by
 unfold aA; rw [h]; rfl
theorem xC {c:DS->Option Bool} {b:DS->Option Res} (W:Nat->DS->Prop) (Z:DS->Prop) (m:Nat) {δ:DS} (h:W m δ)
  (hs:∀ m δ,W m δ->(c δ=some false /\ Z δ) \/ (c δ=some true /\ ∃ δ' m',b δ=some (.nx δ') /\ m' < m /\ W m' δ')):∃ δ',gJ c b δ=some (.nx δ') /\ Z δ':=by
 obtain ⟨q,h1,δ',rfl,h2⟩:=Aj W (fun _ q=>∃ δ',q=.nx δ' /\ Z δ') m δ h (fun m δ hW=>by
  rcases hs m δ hW with ⟨a,z⟩ | ⟨a,δ',m',e,l,w⟩
  ·exact .inl ⟨a,δ,rfl,z⟩
  ·exact .inr ⟨a,.inl ⟨δ',m',.inl e,l,w,fun q hq=>hq⟩⟩)
 exact ⟨δ',h1,h2⟩
theorem u7 {t:D->DS->Option DS} {b:DS->Option Res} (W:Nat->DS->Prop):∀ (ds:List D) (k:Nat) {δ:DS},W k δ->(∀ i d δ,ds[i]?=some d->W (k + i) δ->∃ dZ δ',t d δ=some dZ /\ b dZ=some (.nx δ') /\ W (k + i + 1) δ')->
  ∃ δ',ke t b ds δ=some (.nx δ') /\ W (k + ds.length) δ'
 | [],k,δ,h,_=>⟨δ,rfl,h⟩
 | d :: ds,k,δ,h,hs=>by
   obtain ⟨dZ,δ',e1,e2,h'⟩:=hs 0 d δ rfl h
   obtain ⟨J5,e3,h2⟩:=u7 W ds (k + 1) h' (fun i d δ e w=>by
    have:=hs (i + 1) d δ (by simpa using e) (by rw [show k + (i + 1)=k + 1 + i by omega]; exact w)
    rw [show k + (i + 1) + 1=k + 1 + i + 1 by omega] at this
    exact this)
   refine ⟨J5,?_,by rw [List.length_cons,show k + (ds.length + 1)=k + 1 + ds.length by omega]; exact h2⟩
   rw [ke,e1,Option.bind_some,e2,Option.bind_some]
   exact e3
theorem sP {α:Type} {t:D->DS->Option DS} {b:DS->Option Res} (enc:α->D) (W:Nat->DS->Prop) (xs:List α) {δ:DS} (h:W 0 δ)
  (hs:∀ i x δ,xs[i]?=some x->W i δ->∃ dZ δ',t (enc x) δ=some dZ /\ b dZ=some (.nx δ') /\ W (i + 1) δ'):∃ δ',ke t b (xs.map enc) δ=some (.nx δ') /\ W xs.length δ':=by
 obtain ⟨δ',e,w⟩:=u7 (t:=t) (b:=b) W (xs.map enc) 0 h (fun i d δ e w=>by
  rw [List.getElem?_map] at e
  cases ex:xs[i]? with
  | none=>rw [ex] at e; cases e
  | some x=>
    rw [ex] at e; cases e
    rw [Nat.zero_add] at w ⊢
    exact hs i x δ ex w)
 rw [Nat.zero_add,List.length_map] at w
 exact ⟨δ',e,w⟩
theorem Dq {t:D->DS->Option DS} {b:DS->Option Res} {lo:Int} {n:Nat} (W:Nat->DS->Prop) {δ:DS} (h:W 0 δ)
  (hs:∀ i δ,i < n->W i δ->∃ dZ δ',t (.int (lo + i)) δ=some dZ /\ b dZ=some (.nx δ') /\ W (i + 1) δ'):∃ δ',ke t b (fe lo n) δ=some (.nx δ') /\ W n δ':=by
 obtain ⟨δ',e,w⟩:=sP (t:=t) (b:=b) (fun k:Nat=>PyData.int (lo + k)) W (List.range n) h (fun i x δ e w=>by
  have hi:=(List.getElem?_eq_some_iff.mp e).1
  rw [List.length_range] at hi
  rw [List.getElem?_range hi] at e
  cases e
  exact hs i δ hi w)
 rw [List.length_range] at w
 exact ⟨δ',e,w⟩
theorem rJ {c:DS->Option Bool} {b rest:DS->Option Res} {β:Type} {f:Res->Option β} {R:β->Prop} {δ:DS} (W:Nat->DS->Prop) (Z:DS->Prop) (m:Nat) (h:W m δ)
  (hs:∀ m δ,W m δ->(c δ=some false /\ Z δ) \/ (c δ=some true /\ ∃ δ' m',b δ=some (.nx δ') /\ m' < m /\ W m' δ')) (k:∀ δ',Z δ'->fT ((rest δ').bind f) R):fT ((aA (gJ c b) rest δ).bind f) R:=by
 obtain ⟨δ',h1,h2⟩:=xC W Z m h hs
 rw [j6 h1]
 exact k δ' h2
theorem i5 {α:Type} {t:D->DS->Option DS} {gi:DS->Option (List D)} {b rest:DS->Option Res} {β:Type} {f:Res->Option β} {R:β->Prop} {δ:DS} (enc:α->D) (xs:List α) (W:Nat->DS->Prop) (hi:gi δ=some (xs.map enc)) (h:W 0 δ)
  (hs:∀ i x δ,xs[i]?=some x->W i δ->∃ dZ δ',t (enc x) δ=some dZ /\ b dZ=some (.nx δ') /\ W (i + 1) δ') (k:∀ δ',W xs.length δ'->fT ((rest δ').bind f) R):fT ((aA (fS gi t b) rest δ).bind f) R:=by
 obtain ⟨δ',h1,h2⟩:=sP (t:=t) (b:=b) enc W xs h hs
 rw [j6 (δ':=δ') (by unfold fS; rw [hi]; exact h1)]
 exact k δ' h2
theorem l6 {t:D->DS->Option DS} {gi:DS->Option (List D)} {b rest:DS->Option Res} {β:Type} {f:Res->Option β} {R:β->Prop} {δ:DS} (lo:Int) (n:Nat) (W:Nat->DS->Prop) (hi:gi δ=some (fe lo n)) (h:W 0 δ)
  (hs:∀ i δ,i < n->W i δ->∃ dZ δ',t (.int (lo + i)) δ=some dZ /\ b dZ=some (.nx δ') /\ W (i + 1) δ') (k:∀ δ',W n δ'->fT ((rest δ').bind f) R):fT ((aA (fS gi t b) rest δ).bind f) R:=by
 obtain ⟨δ',h1,h2⟩:=Dq (t:=t) (b:=b) W h hs
 rw [j6 (δ':=δ') (by unfold fS; rw [hi]; exact h1)]
 exact k δ' h2
theorem aX {a rest:DS->Option Res} {β:Type} {f:Res->Option β} {R:β->Prop} {δ:DS} (δ':DS) (h:a δ=some (.nx δ')) (k:fT ((rest δ').bind f) R):fT ((aA a rest δ).bind f) R:=by
 rw [j6 h]; exact k
theorem kL {c:DS->Option Bool} {a rest:DS->Option Res} {β:Type} {f:Res->Option β} {R:β->Prop} {δ:DS} (h:c δ=some false) (k:fT ((rest δ).bind f) R):fT ((aA (iy c a bW) rest δ).bind f) R:=by
 rw [j6 (δ':=δ) (by unfold iy; rw [h]; rfl)]; exact k
theorem l7 {c:DS->Option Bool} {a b rest:DS->Option Res} {β:Type} {f:Res->Option β} {R:β->Prop} {δ:DS} (x:Bool) (h:c δ=some x) (k1:x=true->fT ((aA a rest δ).bind f) R) (k2:x=false->fT ((aA b rest δ).bind f) R):fT ((aA (iy c a b) rest δ).bind f) R:=by
 have e:iy c a b δ=if x=true then a δ else b δ:=by unfold iy; rw [h]; rfl
 cases x with
 | true=>rw [if_pos rfl] at e; have:=k1 rfl; unfold aA at this ⊢; rw [e]; exact this
 | false=>rw [if_neg Bool.false_ne_true] at e; have:=k2 rfl; unfold aA at this ⊢; rw [e]; exact this
theorem n6 {g:DS->Option D} {rest:DS->Option Res} {β:Type} {f:Res->Option β} {R:β->Prop} {δ:DS} (d:D) (h:g δ=some d) (k:fT (f (.rt d)) R):fT ((aA (bZ g) rest δ).bind f) R:=by
 rw [l5 (d:=d) (by unfold bZ; rw [h]; rfl)]; exact k
theorem ret {g:DS->Option D} {β:Type} {f:Res->Option β} {R:β->Prop} {δ:DS} (d:D) (h:g δ=some d) (k:fT (f (.rt d)) R):fT ((bZ g δ).bind f) R:=by
 unfold bZ; rw [h]; exact k
theorem b8 {a b:DS->Option Res} {δ:DS} {r:Option Res} (δ':DS) (h:a δ=some (.nx δ')) (k:b δ'=r):aA a b δ=r:=(j6 h).trans k
theorem u9 {c:DS->Option Bool} {a:DS->Option Res} {δ:DS} (h:c δ=some false):iy c a bW δ=some (.nx δ):=by unfold iy; rw [h]; rfl
theorem zr {α β:Type} {f:D->Option D} (enc:α->D) (kM:β->D) (h:α->β):∀ (l:List α),(∀ a∈l,f (enc a)=some (kM (h a)))->lM f (l.map enc)=some ((l.map h).map kM)
 | [],_=>rfl
 | a :: l,hf=>by
   rw [List.map_cons,lM,hf a List.mem_cons_self,Option.bind_some,zr enc kM h l fun b hb=>hf b (List.mem_cons_of_mem _ hb)]
   rfl
theorem g9 {α β:Type} (enc:α->D) (kM:β->D) (h:α->β) {gi:DS->Option (List D)} {ix:List Nat} {ge:DS->Option D} {δ:DS} (l:List α) (hi:gi δ=some (l.map enc)) (hn:l.length<=100000)
  (hf:∀ a∈l,ge (some (enc a) :: c5 ix δ)=some (kM (h a))):cO gi ix ge δ=some ((l.map h).map kM):=by
 unfold cO
 rw [hi,Option.bind_some,if_pos (by rw [List.length_map]; exact hn)]
 exact zr enc kM h l hf
theorem F8 {α:Type} (enc:α->D) (l:List α) (a b:Nat):∃ m:List α,cutD (l.map enc) (some (a:Int)) (some (b:Int))=m.map enc /\ m.length<=b - a /\ m.length<=l.length:=by
 unfold cutD
 refine ⟨(l.drop _).take _,by rw [List.map_take,List.map_drop,List.length_map],?_,?_⟩
 ·rw [List.length_take,HT.yF,HT.yF]; omega
 ·rw [List.length_take,List.length_drop]; omega
theorem mO (a b:Int):qY (.int a) (.int b)=some (.bool (decide (a=b))):=rfl
theorem jD (a b:Int):wL (.int a) (.int b)=some (.bool (!decide (a=b))):=rfl
theorem Dr {a b:D} {c:Bool} (h:qY a b=some (.bool c)):wL a b=some (.bool (!c)):=by unfold wL; rw [h]; rfl
theorem iJ {g:DS->Option (List D)} {δ:DS} {n:Nat} (h:g δ=some [.int (n:Nat)]) (hn:n<=100000):eQ g δ=some (fe 0 n):=by
 unfold eQ
 rw [h,Option.bind_some]
 show (if -(2 ^ 62)<=((n:Nat):Int) /\ ((n:Nat):Int) < 2 ^ 62 then some (fe 0 ((n:Nat):Int).toNat) else none)=_
 rw [Int.toNat_natCast,if_pos ⟨by omega,by omega⟩]
theorem AZ {g:DS->Option (List D)} {δ:DS} {a b:Int} (h:g δ=some [.int a,.int b]) (h1: -100000<=a) (h2:a<=100000) (h3: -100000<=b) (h4:b<=100000):nW g δ=some (fe a (b - a).toNat):=by
 unfold nW
 rw [h,Option.bind_some]
 show (if -(2 ^ 62)<=a /\ a < 2 ^ 62 /\ -(2 ^ 62)<=b /\ b < 2 ^ 62 then some (fe a (b - a).toNat) else none)=_
 rw [if_pos ⟨by omega,by omega,by omega,by omega⟩]
theorem call_of {G:List D->Option D} {n:Nat} {g:DS->Option (List D)} {δ:DS} {ds:List D} {r:Option D} (h:g δ=some ds) (hn:ds.length=n) (hG:G ds=r):aC G n g δ=r:=by
 unfold aC; rw [h,Option.bind_some,if_pos hn]; exact hG
theorem dE {G:List D->Option (List D)} {n:Nat} {g:DS->Option (List D)} {δ:DS} {ds:List D} {r:Option (List D)} (h:g δ=some ds) (hn:ds.length=n) (hG:G ds=r):cm G n g δ=r:=by
 unfold cm; rw [h,Option.bind_some,if_pos hn]; exact hG
theorem bS {g:DS->Option (List D)} {δ:DS} {l:List D} (h:g δ=some l):aU g δ=some (.list l):=by unfold aU; rw [h]; rfl
theorem cons_of {a:DS->Option D} {r:DS->Option (List D)} {δ:DS} {x:D} {xs:List D} (h:a δ=some x) (h2:r δ=some xs):aa a r δ=some (x :: xs):=by unfold aa; rw [h,h2]; rfl
theorem be {i:Nat} {g:DS->Option D} {δ:DS} {d:D} (h:g δ=some d):aR i g δ=some (.nx (δ.set i (some d))):=by unfold aR; rw [h]; rfl
theorem F9 {i:Nat} {g:DS->Option (List D)} {δ:DS} {d:List D} (h:g δ=some d):ki i g δ=some (.nx (δ.set i (some (.list d)))):=by unfold ki; rw [h]; rfl
theorem il (l:List D):dj [.list l]=some (.int l.length):=rfl
theorem M5 (l:List D) (i:Int):c8 (.list l) (.int i)=rP l i:=rfl
theorem kN (q:Ad):c8 (dF q) (.int 0)=some (.int q.1):=rfl
theorem i6 (q:Ad):c8 (dF q) (.int 1)=some (.int q.2):=rfl
theorem HX {a b:DS->Option Bool} {δ:DS} {r:Option Bool} (h1:a δ=some false) (h2:b δ=r):Bo a b δ=r:=by unfold Bo; rw [h1]; exact h2
theorem J6 {a b:DS->Option Bool} {δ:DS} {r:Option Bool} (h1:a δ=some true) (h2:b δ=r):lG a b δ=r:=by unfold lG; rw [h1]; exact h2
theorem l8 {a:DS->Option Bool} {δ:DS} {x:Bool} (h:a δ=some x):sd a δ=some (!x):=by unfold sd; rw [h]; rfl
theorem cB {g:DS->Option D} {δ:DS} {b:Bool} (h:g δ=some (.bool b)):gB g δ=some b:=by unfold gB; rw [h]; rfl
theorem sQ {g:DS->Option D} {δ:DS} {b:Bool} (h:g δ=some (.bool b)):nM g δ=some b:=by unfold nM; rw [h]; rfl
theorem aw {f:D->D->Option D} {a b:DS->Option D} {δ:DS} {x y:D} {r:Option D} (h1:a δ=some x) (h2:b δ=some y) (h3:f x y=r):g2 f a b δ=r:=by unfold g2; rw [h1,h2]; exact h3
abbrev eO:List Str:=["TooMany","NoTelling"]
abbrev sR:List Str:=["NoNumber","NoPlan","TooLong","NoText","NoEnd","TooMany","NoRow","NoTelling","NoLot","NotOnly","Only","NoShares","NoDeed","NoName","NoDraw"]
abbrev Ds:DS->Option Res:=(aA (aR 2 (g2 e9 (g1 yV (af 0)) (gC (.int (240)))))
  (aA (aR 3 (aM (aa (g2 Jk (af 0) (af 2)) (aa (gC (.int (1))) (aa (gC (.int (0))) ah)))))
  (aA (aR 4 (aM (aa (g2 Jk (af 1) (af 2)) (aa (gC (.int (0))) (aa (gC (.int (1))) ah)))))
  (aA (gJ (gB (g2 wL (g2 Jk (g2 c8 (af 4) (gC (.int (0)))) (gC (.int (120)))) (gC (.int (0))))) (aA (aR 5 (g2 kB (g2 c8 (af 3) (gC (.int (0)))) (g2 c8 (af 4) (gC (.int (0))))))
  (aA (aR 6 (aM (aa (g2 e9 (g2 c8 (af 3) (gC (.int (0)))) (g2 cG (af 5) (g2 c8 (af 4) (gC (.int (0)))))) (aa (g2 e9 (g2 c8 (af 3) (gC (.int (1)))) (g2 cG (af 5) (g2 c8 (af 4) (gC (.int (1)))))) (aa (g2 e9 (g2 c8 (af 3) (gC (.int (2)))) (g2 cG (af 5) (g2 c8 (af 4) (gC (.int (2)))))) ah)))))
  (aA (aR 3 (af 4))
  (aR 4 (af 6))))))
  (bZ (aM (aa (eM oS (aa (g2 ba (g2 cG (g2 c8 (af 3) (gC (.int (1)))) (af 0)) (g2 cG (g2 c8 (af 3) (gC (.int (2)))) (af 1))) ah)) (aa (eM oS (aa (g2 ba (g2 cG (g2 c8 (af 4) (gC (.int (1)))) (af 0)) (g2 cG (g2 c8 (af 4) (gC (.int (2)))) (af 1))) ah)) ah))))))))
def xD:List D->Option D:=ff 7 Ds
abbrev d7:DS->Option Res:=(aA (aR 0 (eM oS (aa (af 0) ah)))
  (aA (aR 1 (eM oS (aa (af 1) ah)))
  (aA (gJ (gB (g2 wL (af 1) (gC (.int (0))))) (aA (aR 2 (g2 fb (af 0) (af 1)))
  (aA (aR 0 (af 1))
  (aA (aR 1 (af 2))
  (iy (gB (g2 tZ (g1 yV (af 1)) (gC (.int (4000))))) (aA (aR 3 (aC xD 2 (aa (af 0) (aa (af 1) ah))))
  (aA (aR 0 (g2 c8 (af 3) (gC (.int (0)))))
  (aR 1 (g2 c8 (af 3) (gC (.int (1))))))) bW)))))
  (bZ (af 0)))))
def bA:List D->Option D:=ff 4 d7
theorem kO (a0 a1:D):bA [a0,a1]=(d7 [some a0,some a1,none,none]).bind gn:=rfl
abbrev xE:DS->Option Res:=(aA (iy (gB (g2 qY (af 1) (gC (.int (0))))) (fun _=>none) bW)
  (aA (aR 2 (aC bA 2 (aa (af 0) (aa (af 1) ah))))
  (aA (iy (gB (g2 v9 (af 1) (gC (.int (0))))) (aR 2 (g1 Af (af 2))) bW)
  (bZ (aM (aa (g2 kB (af 0) (af 2)) (aa (g2 kB (af 1) (af 2)) ah)))))))
def ip:List D->Option D:=ff 3 xE
theorem J7 (a0 a1:D):ip [a0,a1]=(xE [some a0,some a1,none]).bind gn:=rfl
abbrev xF:DS->Option Res:=(aA (aR 2 (aC bA 2 (aa (g2 c8 (af 0) (gC (.int (1)))) (aa (g2 c8 (af 1) (gC (.int (1)))) ah))))
  (aA (aR 3 (g2 kB (g2 c8 (af 0) (gC (.int (1)))) (af 2)))
  (aA (aR 4 (g2 kB (g2 c8 (af 1) (gC (.int (1)))) (af 2)))
  (aA (aR 5 (aC ip 2 (aa (g2 ba (g2 cG (g2 c8 (af 0) (gC (.int (0)))) (af 4)) (g2 cG (g2 c8 (af 1) (gC (.int (0)))) (af 3))) (aa (af 2) ah))))
  (bZ (aM (aa (g2 c8 (af 5) (gC (.int (0)))) (aa (g2 cG (g2 cG (af 3) (af 4)) (g2 c8 (af 5) (gC (.int (1))))) ah))))))))
def kP:List D->Option D:=ff 6 xF
theorem J8 (a0 a1:D):kP [a0,a1]=(xF [some a0,some a1,none,none,none,none]).bind gn:=rfl
abbrev sS:DS->Option Res:=(bZ (aC kP 2 (aa (af 0) (aa (aM (aa (g1 Af (g2 c8 (af 1) (gC (.int (0))))) (aa (g2 c8 (af 1) (gC (.int (1)))) ah))) ah))))
def l9:List D->Option D:=ff 2 sS
theorem Ga (a0 a1:D):l9 [a0,a1]=(sS [some a0,some a1]).bind gn:=rfl
abbrev sT:DS->Option Res:=(aA (aR 2 (aC ip 2 (aa (g2 c8 (af 0) (gC (.int (0)))) (aa (g2 c8 (af 1) (gC (.int (1)))) ah))))
  (aA (aR 3 (aC ip 2 (aa (g2 c8 (af 1) (gC (.int (0)))) (aa (g2 c8 (af 0) (gC (.int (1)))) ah))))
  (bZ (aM (aa (g2 cG (g2 c8 (af 2) (gC (.int (0)))) (g2 c8 (af 3) (gC (.int (0))))) (aa (g2 cG (g2 c8 (af 2) (gC (.int (1)))) (g2 c8 (af 3) (gC (.int (1))))) ah))))))
def ma:List D->Option D:=ff 4 sT
theorem Gb (a0 a1:D):ma [a0,a1]=(sT [some a0,some a1,none,none]).bind gn:=rfl
abbrev xG:DS->Option Res:=(bZ (aC ma 2 (aa (af 0) (aa (aC ip 2 (aa (g2 c8 (af 1) (gC (.int (1)))) (aa (g2 c8 (af 1) (gC (.int (0)))) ah))) ah))))
def iq:List D->Option D:=ff 2 xG
theorem J9 (a0 a1:D):iq [a0,a1]=(xG [some a0,some a1]).bind gn:=rfl
abbrev sU:DS->Option Res:=(aA (aR 2 (gC (.int (1))))
  (aA (aR 3 (gC (.int (1))))
  (aA (fS (eQ (aa (af 1) ah)) (aE 4)
   (aA (aR 2 (g2 cG (af 2) (g2 c8 (af 0) (gC (.int (0))))))
  (aR 3 (g2 cG (af 3) (g2 c8 (af 0) (gC (.int (1))))))))
  (bZ (aM (aa (af 2) (aa (af 3) ah)))))))
def hJ:List D->Option D:=ff 5 sU
theorem Gc (a0 a1:D):hJ [a0,a1]=(sU [some a0,some a1,none,none,none]).bind gn:=rfl
abbrev mP:DS->Option Res:=(aA (aR 2 (g2 ba (g2 c8 (af 1) (gC (.int (0)))) (g2 c8 (af 1) (gC (.int (1))))))
  (bZ (yS (iW V0 v9 (gC (.int (0))) (af 2) (eM dj (aa (af 0) ah))) (g2 Jl (g2 c8 (af 1) (gC (.int (0)))) (g2 c8 (af 0) (af 2))))))
def cK:List D->Option D:=ff 3 mP
theorem A1 (a0 a1:D):cK [a0,a1]=(mP [some a0,some a1,none]).bind gn:=rfl
abbrev pE:DS->Option Res:=(bZ (aU (Jz (aU (tY jy (aU (wM mF (aa (af 0) ah))) (aU (cO (aY (af 0)) [] (g2 ba (af 0) (gC (.int (1)))))))))))
def gN:List D->Option (List D):=kj 1 pE
theorem Du (a0:D):gN [a0]=(pE [some a0]).bind lN:=rfl
abbrev mQ:DS->Option Res:=(aA (ki 1 (cN (aa (aM (aa (gC (.int (0))) (aa (gC (.int (0))) ah))) ah)))
  (aA (fS (CJ (af 0)) (fU 2 (bJ (aE 2) (bJ (aE 3) gK)))
   (wR 1 (cO (aY (aU (cm gN 1 (aa (af 3) ah)))) [2] (aM (aa (af 0) (aa (g2 e9 (af 1) (af 0)) ah))))))
  (bZ (af 1))))
def fi:List D->Option (List D):=kj 4 mQ
theorem A2 (a0:D):fi [a0]=(mQ [some a0,none,none,none]).bind lN:=rfl
abbrev xH:DS->Option Res:=(bZ (aU (cz (aY (aU (cm fi 1 (aa (af 0) ah)))) 1 [0] (aE 0) (sd (nM (aC cK 2 (aa (af 1) (aa (af 0) ah))))) (af 0))))
def jE:List D->Option (List D):=kj 1 xH
theorem Ka (a0:D):jE [a0]=(xH [some a0]).bind lN:=rfl
abbrev kQ:DS->Option Res:=(aA (ki 1 (cN ah))
  (aA (fS (xb (af 0)) (fU 2 (bJ (aE 2) (bJ (aE 3) gK)))
   (wR 1 (cO (aY (af 3)) [2] (aM (aa (af 0) (aa (g2 e9 (af 1) (af 0)) ah))))))
  (bZ (af 1))))
def fj:List D->Option (List D):=kj 4 kQ
theorem xI (a0:D):fj [a0]=(kQ [some a0,none,none,none]).bind lN:=rfl
abbrev sV:DS->Option Res:=(aA (iy (gB (g2 qY (af 1) (gC (.str "b")))) (bZ (aM (aa (g2 ba (g2 c8 (af 0) (gC (.int (0)))) (gC (.int (1)))) (aa (g2 c8 (af 0) (gC (.int (1)))) ah)))) bW)
  (bZ (aM (aa (g2 c8 (af 0) (gC (.int (0)))) (aa (g2 ba (g2 c8 (af 0) (gC (.int (1)))) (gC (.int (1)))) ah)))))
def b9:List D->Option D:=ff 2 sV
theorem zt (a0 a1:D):b9 [a0,a1]=(sV [some a0,some a1]).bind gn:=rfl
abbrev jF:DS->Option Res:=(aA (y3 2 (xf (af 1) (gC (.int (1)))))
  (aA (fS (aY (aU (cm fj 1 (aa (af 0) ah)))) (aE 3)
   (aA (aR 4 (kI (af 2) (af 3) (gC (.int (0)))))
  (fS (aY (aM (aa (aC b9 2 (aa (af 3) (aa (gC (.str "b")) ah))) (aa (aC b9 2 (aa (af 3) (aa (gC (.str "g")) ah))) ah)))) (aE 5)
   (rA 2 (af 5) (g2 ba (kI (af 2) (af 5) (gC (.int (0)))) (af 4))))))
  (bZ (af 2))))
def eC:List D->Option D:=ff 6 jF
theorem vb (a0 a1:D):eC [a0,a1]=(jF [some a0,some a1,none,none,none,none]).bind gn:=rfl
abbrev ir (GR:List D->Option (List D)):DS->Option Res:=(aA (iy (sd (nM (aC cK 2 (aa (af 0) (aa (af 2) ah))))) (bZ (aU (cN (aa (af 1) ah)))) bW)
  (aA (ki 3 (cm GR 3 (aa (af 0) (aa (g2 ba (af 1) (gC (.str "b"))) (aa (aC b9 2 (aa (af 2) (aa (gC (.str "b")) ah))) ah)))))
  (aA (wR 3 (cm GR 3 (aa (af 0) (aa (g2 ba (af 1) (gC (.str "g"))) (aa (aC b9 2 (aa (af 2) (aa (gC (.str "g")) ah))) ah)))))
  (bZ (af 3)))))
def bx:Nat->List D->Option (List D)
 | 0=>kj 4 (fun _=>none)
 | n + 1=>kj 4 (ir (bx n))
def fF:List D->Option (List D):=bx 26
theorem kq (n:Nat) (a0 a1 a2:D):bx (n + 1) [a0,a1,a2]=(ir (bx n) [some a0,some a1,some a2,none]).bind lN:=rfl
abbrev mR:DS->Option Res:=(aA (aR 1 (aC eC 2 (aa (af 0) (aa (aM (aa (gC (.int (0))) (aa (gC (.int (0))) ah))) ah))))
  (aA (iy (gB (g2 tZ (eM AG (aa (aU (cO (aY (aU (cm jE 1 (aa (af 0) ah)))) [1] (jm (af 1) (af 0)))) ah)) (gC (.int (4000))))) (xp "TooMany") bW)
  (bZ (aU (cm fF 3 (aa (af 0) (aa (gC (.str "")) (aa (aM (aa (gC (.int (0))) (aa (gC (.int (0))) ah))) ah))))))))
def iK:List D->Option D:=Dh 2 mR
theorem xJ (a0:D):iK [a0]=(mR [some a0,none]).bind Dg:=rfl
abbrev pF:DS->Option Res:=(aA (aR 2 (aM (aa (gC (.int (0))) (aa (gC (.int (0))) ah))))
  (aA (fS (CQ (af 1)) (aE 3)
   (aA (iy (Bo (gB (g2 kD (af 3) (aM (aa (gC (.str "b")) (aa (gC (.str "g")) ah))))) (sd (nM (aC cK 2 (aa (af 0) (aa (af 2) ah)))))) (fun _=>none) bW)
  (aR 2 (aC b9 2 (aa (af 2) (aa (af 3) ah))))))
  (aA (iy (nM (aC cK 2 (aa (af 0) (aa (af 2) ah)))) (fun _=>none) bW)
  (bZ (af 2)))))
def fL:List D->Option D:=ff 4 pF
theorem Dv (a0 a1:D):fL [a0,a1]=(pF [some a0,some a1,none,none]).bind gn:=rfl
abbrev jG:DS->Option Res:=(aA (mM 2 (aC iK 1 (aa (af 0) ah)))
  (aA (iy (gB (g2 wL (eM dj (aa (af 1) ah)) (eM dj (aa (af 2) ah)))) (xp "NoTelling") bW)
  (aA (aR 3 (aU (cm jE 1 (aa (af 0) ah))))
  (aA (y3 4 HN)
  (nZ 4 (AU (aY (af 3)) (aE 5)
   (zm (af 5)))
  (AU (FI (af 2) (af 1)) (fU 2 (bJ (aE 6) (bJ (aE 7) gK)))
   (rF (aC fL 2 (aa (af 0) (aa (af 6) ah))) (af 7)))
  (cO (aY (af 3)) [4] (jm (af 1) (af 0))))))))
def c7:List D->Option D:=Dh 8 jG
theorem mS (a0 a1:D):c7 [a0,a1]=(jG [some a0,some a1,none,none,none,none,none,none]).bind Dg:=rfl
abbrev i7:DS->Option Res:=(aA (aR 1 (gC (.tuple [(.int (0)),(.int (1))])))
  (aA (fS (aY (af 0)) (aE 2)
   (aR 1 (aC kP 2 (aa (af 1) (aa (af 2) ah)))))
  (bZ (af 1))))
def bP:List D->Option D:=ff 3 i7
theorem sW (a0:D):bP [a0]=(i7 [some a0,none,none]).bind gn:=rfl
abbrev fk:DS->Option Res:=(kK (aC c7 2 (aa (af 0) (aa (af 1) ah))) [] (aC iq 2 (aa (aC bP 1 (aa (af 0) ah)) (aa (aM (aa (eM dj (aa (af 0) ah)) (aa (gC (.int (1))) ah))) ah))))
def dG:List D->Option D:=ff 2 fk
theorem jH (a0 a1:D):dG [a0,a1]=(fk [some a0,some a1]).bind gn:=rfl
abbrev mT:DS->Option Res:=(aA (aR 1 (aC bP 1 (aa (aU (cO (aY (af 0)) [] (aC hJ 2 (aa (af 0) (aa (gC (.int (2))) ah))))) ah)))
  (bZ (aC l9 2 (aa (af 1) (aa (aC iq 2 (aa (aC hJ 2 (aa (aC bP 1 (aa (af 0) ah)) (aa (gC (.int (2))) ah))) (aa (aM (aa (eM dj (aa (af 0) ah)) (aa (gC (.int (1))) ah))) ah))) ah)))))
def gD:List D->Option D:=ff 2 mT
theorem A3 (a0:D):gD [a0]=(mT [some a0,none]).bind gn:=rfl
abbrev c9:DS->Option Res:=(kK (aC c7 2 (aa (af 0) (aa (af 1) ah))) [] (aC gD 1 (aa (af 0) ah)))
def cf:List D->Option D:=ff 2 c9
theorem gO (a0 a1:D):cf [a0,a1]=(c9 [some a0,some a1]).bind gn:=rfl
abbrev kR:DS->Option Res:=(aA (iy (gB (g2 v9 (af 1) (eM dj (aa (af 0) ah)))) (bZ (g2 c8 (af 0) (af 1))) bW)
  (bZ (gC (.int (0)))))
def d8:List D->Option D:=ff 2 kR
theorem xK (a0 a1:D):d8 [a0,a1]=(kR [some a0,some a1]).bind gn:=rfl
abbrev i8:DS->Option Res:=(aA (ki 3 (cN ah))
  (aA (fS (eQ (aa (af 2) ah)) (aE 4)
   (aA (Ah 3 (g2 fb (af 0) (af 1)))
  (aR 0 (g2 kB (af 0) (af 1)))))
  (bZ (af 3))))
def dS:List D->Option (List D):=kj 5 i8
theorem sX (a0 a1 a2:D):dS [a0,a1,a2]=(i8 [some a0,some a1,some a2,none,none]).bind lN:=rfl
abbrev jI:DS->Option Res:=(aA (ki 3 (cN ah))
  (aA (fS (eQ (aa (af 2) ah)) (aE 4)
   (aA (aR 5 (g2 fb (g2 ba (g2 ba (g2 cG (g2 fb (af 0) (gC (.int (1000003)))) (gC (.int (48271)))) (g2 cG (g2 cG (af 4) (af 4)) (gC (.int (69621))))) (g2 cG (af 4) (gC (.int (16807))))) (gC (.int (2147483647)))))
  (Ah 3 (g2 fb (g2 kB (g2 fb (g2 ba (g2 cG (af 5) (gC (.int (39373)))) (af 0)) (gC (.int (2147483629)))) (gC (.int (13)))) (af 1)))))
  (bZ (af 3))))
def fM:List D->Option (List D):=kj 6 jI
theorem vc (a0 a1 a2:D):fM [a0,a1,a2]=(jI [some a0,some a1,some a2,none,none,none]).bind lN:=rfl
abbrev kS:DS->Option Res:=(aA (aR 2 (g2 kB (af 0) (gC (.int (4)))))
  (aA (aR 3 (g2 ba (gC (.int (100))) (g2 cG (gC (.int (200))) (eM Fs (aa (g2 tZ (af 1) (gC (.int (12)))) ah)))))
  (aA (aR 4 (aU (cm fM 3 (aa (af 2) (aa (gC (.int (3))) (aa (af 3) ah))))))
  (aA (iy (gB (g2 OK (eM oS (aa (af 0) ah)) (g2 Ca (gC (.int (10))) (gC (.int (18)))))) (aR 4 (aU (cm dS 3 (aa (af 2) (aa (gC (.int (3))) (aa (af 3) ah)))))) bW)
  (aA (ki 5 (cN (aa (aM (aa (gC (.int (0))) ah)) ah)))
  (aA (aR 6 (aU (cN (aa (gC (.int (0))) (aa (gC (.int (1))) ah)))))
  (aA (aR 7 (gC (.int (0))))
  (aA (gJ (lG (gB (g2 v9 (eM dj (aa (af 5) ah)) (af 1))) (gB (g2 tZ (eM dj (aa (af 6) ah)) (gC (.int (0)))))) (aA (aR 8 (aU (cz (dB (af 6)) 2 [4,3,7] (fU 2 (bJ (aE 0) (bJ (aE 1) gK))) (gB (g2 tZ (g2 c8 (af 2) (g2 fb (g2 ba (af 4) (af 0)) (af 3))) (gC (.int (0))))) (af 1))))
  (aA (aR 7 (g2 ba (af 7) (eM dj (aa (af 6) ah))))
  (aA (iy (gB (g2 tZ (g2 fb (af 0) (gC (.int (4)))) (gC (.int (1))))) (aR 8 (aU (wN (af 6) (gI (g2 c8 (af 4) (g2 fb (af 7) (af 3)))) (gI (eM qZ (aa (gC (.int (0))) (aa (g2 e9 (eM dj (aa (af 6) ah)) (g2 c8 (af 4) (g2 fb (g2 ba (af 7) (gC (.int (1)))) (af 3)))) ah))))))) bW)
  (aA (aR 6 (aU (Jz (aU (tY jy (af 8) (aU (cO (aY (af 8)) [] (g2 ba (af 0) (gC (.int (1)))))))))))
  (iy (gB (g2 tZ (eM dj (aa (af 8) ah)) (gC (.int (0))))) (Ah 5 (eM lI (aa (af 8) ah))) bW))))))
  (bZ (eM lI (aa (af 5) ah)))))))))))
def gP:List D->Option D:=ff 9 kS
theorem xM (a0 a1:D):gP [a0,a1]=(kS [some a0,some a1,none,none,none,none,none,none,none]).bind gn:=rfl
abbrev kT:DS->Option Res:=(aA (iy (gB (g2 qY (g2 fb (g2 kB (af 0) (gC (.int (7)))) (gC (.int (8)))) (gC (.int (1))))) (bZ (g2 ba (gC (.int (1))) (g2 fb (g2 kB (af 0) (gC (.int (56)))) (gC (.int (12)))))) bW)
  (bZ (g2 ba (gC (.int (1))) (g2 fb (af 0) (gC (.int (7)))))))
def gQ:List D->Option D:=ff 1 kT
theorem pG (a0:D):gQ [a0]=(kT [some a0]).bind gn:=rfl
abbrev kU:DS->Option Res:=(aA (ki 1 (cN ah))
  (aA (fS (nW (aa (gC (.int (1))) (aa (g2 ba (eM dj (aa (af 0) ah)) (gC (.int (1)))) ah))) (aE 2)
   (aA (aR 3 (aM ah))
  (aA (iy (gB (g2 v9 (af 2) (eM dj (aa (af 0) ah)))) (aR 3 (g2 c8 (af 0) (af 2))) bW)
  (aA (aR 4 (aU (Jz (aU (tY jy (aU (wM mF (aa (g2 c8 (af 0) (g2 e9 (af 2) (gC (.int (1))))) ah))) (aU (cO (aY (g2 c8 (af 0) (g2 e9 (af 2) (gC (.int (1)))))) [] (g2 ba (af 0) (gC (.int (1)))))))))))
  (wR 1 (cz (aY (af 4)) 1 [2,3] (aE 0) (gB (g2 kD (af 0) (af 2))) (aM (aa (af 0) (aa (g2 e9 (af 1) (af 0)) ah)))))))))
  (bZ (af 1))))
def fm:List D->Option (List D):=kj 5 kU
theorem xN (a0:D):fm [a0]=(kU [some a0,none,none,none,none]).bind lN:=rfl
abbrev kW:DS->Option Res:=(aA (y3 1 (xf (aM (aa (gC (.int (0))) (aa (gC (.int (0))) ah))) (gC (.int (1)))))
  (aA (fS (xb (af 0)) (fU 2 (bJ (aE 2) (bJ (aE 3) gK)))
   (fS (aY (af 3)) (aE 4)
   (aA (aR 5 (jm (af 1) (aM (aa (af 4) (aa (g2 e9 (af 2) (af 4)) ah)))))
  (fS (aY (aM (aa (aM (aa (g2 ba (af 4) (gC (.int (1)))) (aa (g2 e9 (af 2) (af 4)) ah))) (aa (aM (aa (af 4) (aa (g2 ba (g2 e9 (af 2) (af 4)) (gC (.int (1)))) ah))) ah)))) (aE 6)
   (rA 1 (af 6) (g2 ba (kI (af 1) (af 6) (gC (.int (0)))) (af 5)))))))
  (bZ (af 1))))
def fq:List D->Option D:=ff 7 kW
theorem xO (a0:D):fq [a0]=(kW [some a0,none,none,none,none,none,none]).bind gn:=rfl
abbrev pH (y:Addr):DS->Option Res:=(aA (aR 1 (aU (cN (aa (bX eO "NoNumber" (af 0)) (aa (bX eO "NoPlan" (af 0)) (aa (bX eO "TooLong" (af 0)) (aa (bX eO "NoText" (af 0)) ah)))))))
  (aA (aR 1 (aU (tY jy (af 1) (aU (cN (aa (bX eO "NoEnd" (af 0)) (aa (bX eO "TooMany" (af 0)) (aa (bX eO "NoRow" (af 0)) (aa (bX eO "NoTelling" (af 0)) ah)))))))))
  (aA (aR 1 (aU (tY jy (af 1) (aU (cN (aa (bX eO "NoLot" (af 0)) (aa (bX eO "NotOnly" (af 0)) (aa (bX eO "Only" (af 0)) (aa (bX eO "NoShares" (af 0)) ah)))))))))
  (aA (aR 1 (aU (tY jy (af 1) (aU (cN (aa (bX eO "NoDeed" (af 0)) (aa (bX eO "NoName" (af 0)) (aa (bX eO "NoDraw" (af 0)) ah))))))))
  (aA (aR 2 (aU (cN (u3 ["NoNumber","NoPlan","TooLong","NoText","NoEnd","TooMany","NoRow","NoTelling","NoLot","NotOnly"]))))
  (aA (aR 2 (aU (tY jy (af 2) (aU (cN (u3 ["Only","NoShares","NoDeed","NoName","NoDraw"]))))))
  (aA (aR 3 (aU (cz (lV y 0 (aa (gC (.int (15))) ah)) 1 [2,1] (aE 0) (nM (g2 c8 (af 2) (af 0))) (g2 c8 (af 1) (af 0)))))
  (aA (iy (Bo (gB (g2 wL (eM dj (aa (af 3) ah)) (gC (.int (1))))) (sd (nM (bX eO "ValueError" (af 0))))) (bZ (gC (.str "else"))) bW)
  (bZ (g2 c8 (af 3) (gC (.int (0)))))))))))))
def d9 (y:Addr):List D->Option D:=ff 4 (pH y)
theorem vd (a:Addr) (c:Str) (R:DS->Option Res) (hc:c∈eO):(aA (aR 1 (aU (cN (aa (bX eO "NoNumber" (af 0)) (aa (bX eO "NoPlan" (af 0)) (aa (bX eO "TooLong" (af 0)) (aa (bX eO "NoText" (af 0)) ah)))))))
  (aA (aR 1 (aU (tY jy (af 1) (aU (cN (aa (bX eO "NoEnd" (af 0)) (aa (bX eO "TooMany" (af 0)) (aa (bX eO "NoRow" (af 0)) (aa (bX eO "NoTelling" (af 0)) ah)))))))))
  (aA (aR 1 (aU (tY jy (af 1) (aU (cN (aa (bX eO "NoLot" (af 0)) (aa (bX eO "NotOnly" (af 0)) (aa (bX eO "Only" (af 0)) (aa (bX eO "NoShares" (af 0)) ah)))))))))
  (aA (aR 1 (aU (tY jy (af 1) (aU (cN (aa (bX eO "NoDeed" (af 0)) (aa (bX eO "NoName" (af 0)) (aa (bX eO "NoDraw" (af 0)) ah))))))))
  (aA (aR 2 (aU (cN (u3 ["NoNumber","NoPlan","TooLong","NoText","NoEnd","TooMany","NoRow","NoTelling","NoLot","NotOnly"]))))
  (aA (aR 2 (aU (tY jy (af 2) (aU (cN (u3 ["Only","NoShares","NoDeed","NoName","NoDraw"])))))) R)))))) [some (C8 a c),none,none,none]=R [some (C8 a c),some (.list (sR.map fun T=>.bool (K8 c T))),some (.list (sR.map .str)),none]:=by
 rcases List.mem_cons.mp hc with rfl | hc
 ·kernel_rfl
 rcases List.mem_cons.mp hc with rfl | hc
 ·kernel_rfl
 cases hc
theorem sY (a:Addr):d9 a [C8 a "TooMany"]=some (.str "TooMany"):=by
 refine Eq.trans (congrArg (fun r=>Option.bind r gn) ((vd a "TooMany" _ (by simp)).trans (Dd (Dc (u0 (ko rfl)))))) ?_
 kernel_rfl
theorem pI (a:Addr):d9 a [C8 a "NoTelling"]=some (.str "NoTelling"):=by
 refine Eq.trans (congrArg (fun r=>Option.bind r gn) ((vd a "NoTelling" _ (by simp)).trans (Dd (Dc (u0 (ko rfl)))))) ?_
 kernel_rfl
theorem Kb (a:Addr) (c:Str) (hc:c∈eO):d9 a [C8 a c]=some (.str c):=by
 rcases List.mem_cons.mp hc with rfl | hc
 ·exact sY a
 rcases List.mem_cons.mp hc with rfl | hc
 ·exact pI a
 cases hc
abbrev nA (a:Addr):DS->Option Res:=(bZ (aC (d9 a) 1 (aa (af 4) ah)))
theorem sZ (a:Addr) (c:Str) (d:D) (h:i3 eO (fun c=>.str c) c=some d):nA a ((List.replicate 5 none).set 4 (some (C8 a c)))=some (.rt d):=by
 obtain ⟨hc,rfl⟩:=nv h
 exact FR rfl (Kb a c hc)
abbrev hV:DS->Option Res:=(aA (xr (iy (gB (g2 qY (af 2) (gC (.int (0))))) (km 3 (aC dG 2 (aa (af 0) (aa (af 1) ah)))) (km 3 (aC cf 2 (aa (af 0) (aa (af 1) ah))))) (i3 eO (fun c=>.str c)))
  (bZ (eM dj (aa (af 3) ah))))
def eD:List D->Option D:=ff 5 hV
theorem ve (a0 a1 a2:D):eD [a0,a1,a2]=(hV [some a0,some a1,some a2,none,none]).bind gn:=rfl
abbrev Dw:DS->Option Res:=(aA (aR 1 (aC gP 2 (aa (aC d8 2 (aa (af 0) (aa (gC (.int (0))) ah))) (aa (aC gQ 1 (aa (aC d8 2 (aa (af 0) (aa (gC (.int (1))) ah))) ah)) ah))))
  (aA (aR 2 (aC fq 1 (aa (af 1) ah)))
  (aA (aR 3 (aU (cm fm 1 (aa (af 1) ah))))
  (aA (aR 4 (eM AG (aa (aU (cO (aY (af 3)) [2] (jm (af 1) (af 0)))) ah)))
  (aA (fS (dB (aU (tY jy (aU (cN (aa (gC (.int (0))) (aa (gC (.int (4))) ah)))) (aU (wN (af 0) (gI (gC (.int (2)))) (gI (gC (.int (5))))))))) (fU 2 (bJ (aE 5) (bJ (aE 6) gK)))
   (aA (aR 7 (eM qZ (aa (gC (.int (0))) (aa (g2 ba (eM yT (aa (af 4) (aa (gC (.int (4000))) ah))) (g2 c8 (aU (cN (aa (gC (.int (0))) (aa (gC (.int (1))) (aa (g1 Af (gC (.int (1)))) (aa (gC (.int (3))) (aa (gC (.int (0))) (aa (g1 Af (gC (.int (3)))) (aa (gC (.int (2))) ah))))))))) (g2 fb (af 6) (gC (.int (7)))))) ah))))
  (aA (aR 8 (aU (cO (eQ (aa (af 7) ah)) [6] (aM (aa (g2 fb (g2 kB (af 1) (gC (.int (7)))) (gC (.int (5)))) (aa (gC (.int (1))) ah))))))
  (aA (aR 9 (eM dj (aa (af 3) ah)))
  (aA (iy (gB (g2 wL (af 7) (af 4))) (aR 9 (gC (.str "NoTelling"))) bW)
  (aA (iy (gB (g2 tZ (af 4) (gC (.int (4000))))) (aR 9 (gC (.str "TooMany"))) bW)
  (fS (eQ (aa (gC (.int (2))) ah)) (aE 10)
   (aA (iy (lG (gB (iW v9 v9 (gC (.int (500))) (af 4) (gC (.int (4001))))) (Bo (gB (g2 (xi true) (aM (aa (af 5) (aa (af 10) ah))) (aM (aa (aM (aa (gC (.int (0))) (aa (gC (.int (0))) ah))) (aa (aM (aa (gC (.int (2))) (aa (gC (.int (1))) ah))) ah))))) (lG (gB (g2 qY (af 5) (gC (.int (2))))) (gB (g2 qY (af 7) (af 4)))))) (fun δ=>some (.ct δ)) bW)
  (iy (Bo (gB (g2 wL (aC eD 3 (aa (af 1) (aa (af 8) (aa (af 10) ah)))) (af 9))) (gB (g2 wL (eM dj (aa (af 8) ah)) (af 7)))) (bZ (gC (.bool false))) bW)))))))))
  (bZ (gC (.bool true))))))))
def rK:List D->Option D:=ff 11 Dw
theorem M6 (a0:D):rK [a0]=(Dw [some a0,none,none,none,none,none,none,none,none,none,none]).bind gn:=rfl
end aG
open L2
namespace aG
open PySem L2 Q1
theorem xP (ns:List Int) (k:Nat):d8 [.list (ns.map .int),.int k]=some (.int (ns.getD k 0)):=by
 rw [xK]
 simp only [aA,iy,gB,g2,af,List.getElem?_cons_succ,List.getElem?_cons_zero,Option.join_some,eM,aa,ah,Option.bind_some,il,B9,bZ,M5,bW,decide_eq_true_eq,gC]
 rw [List.length_map,List.getD_eq_getElem?_getD]
 by_cases h:k < ns.length
 ·rw [if_pos (by omega),nS (v:=.int ns[k]) (by rw [List.getElem?_map,List.getElem?_eq_getElem h]; rfl),List.getElem?_eq_getElem h]
  rfl
 ·rw [if_neg (by omega),List.getElem?_eq_none (by omega)]
  rfl
def dR (r:List Int):D:=.tuple (r.map .int)
def bj (p:List (List Int)):D:=.tuple (p.map dR)
def tf (l:List Int):Prop:=l.Pairwise (· < ·)
def led (r:List Int):List Int:=ss (r ++ r.map (· + 1))
def Nx (r s:List Int):Prop:=s≠[] /\ tf s /\ ∀ x∈s,x∈led r
def Gd:List Int->List (List Int)->Prop
 | _,[]=>True
 | r,s :: q=>Nx r s /\ Gd s q
def lst:List Int->List (List Int)->List Int
 | r,[]=>r
 | _,s :: q=>lst s q
theorem vh {s:List Int}:∀ {q:List (List Int)} {r:List Int},Gd r q->Nx (lst r q) s->Gd r (q ++ [s])
 | [],_,_,h=>⟨h,trivial⟩
 | _ :: _,_,h1,h2=>⟨h1.1,vh h1.2 h2⟩
theorem lst_snoc {s:List Int}:∀ {q:List (List Int)} {r:List Int},lst r (q ++ [s])=s
 | [],_=>rfl
 | _ :: q,_=>lst_snoc (q:=q)
structure Pl (p:List (List Int)):Prop where
 ex:∃ q,p=[0] :: q /\ Gd [0] q
theorem hX {x:Int} {r:List Int}:x∈led r↔x∈r \/ x - 1∈r:=by
 unfold led
 rw [w6,List.mem_append,List.mem_map]
 constructor
 ·rintro (h | ⟨y,h,e⟩)
  ·exact .inl h
  ·exact .inr (by have:x - 1=y:=(by omega); rw [this]; exact h)
 ·rintro (h | h)
  ·exact .inl h
  ·exact .inr ⟨x - 1,h,by omega⟩
theorem vi:∀ {l:List Int} {a b:Int},tf l->(∀ x∈l,a<=x /\ x<=b)->(l.length:Int)<=max 0 (b - a + 1)
 | [],a,b,_,_=>by simp; omega
 | x :: l,a,b,h,hb=>by
   obtain ⟨h1,h2⟩:=List.pairwise_cons.mp h
   have hx:=hb x List.mem_cons_self
   have:=vi (l:=l) (a:=x + 1) (b:=b) h2 fun y hy=>⟨by have:=h1 y hy; omega,(hb y (List.mem_cons_of_mem _ hy)).2⟩
   rw [List.length_cons]
   push_cast
   omega
theorem xQ {i:Nat} {g:DS->Option D} {δ:DS} {ds:List D} {d:D} (h1:af i δ=some (.list ds)) (h2:g δ=some d) (h3:ds.length < 100000):Ah i g δ=some (.nx (δ.set i (some (.list (ds ++ [d]))))):=by
 unfold Ah
 rw [h1,h2]
 show (if ds.length < 100000 then _ else _)=_
 rw [if_pos h3]
theorem M7 {g:DS->Option D} {δ:DS} {d:D} {ns:List Int} (h:g δ=some d) (h2:Jy d=some (ns.map .int)) (h3:ns.length < 64):Jz g δ=some ((ss ns).map .int):=by
 unfold Jz
 rw [h,Option.bind_some,h2,Option.bind_some,mJ,Option.bind_some,if_pos h3]
theorem Dx {a b:DS->Option D} {δ:DS} {x y:List D} (h1:a δ=some (.list x)) (h2:b δ=some (.list y)) (h3:x.length + y.length<=100000):tY jy a b δ=some (x ++ y):=by
 unfold tY
 rw [h1,h2]
 show (if x.length + y.length<=100000 then _ else _)=_
 rw [if_pos h3]
theorem hZ {c:DS->Option Bool} {a b:DS->Option Res} {δ:DS} {r:Option Res} (x:Bool) (h:c δ=some x) (h1:x=true->a δ=r) (h2:x=false->b δ=r):iy c a b δ=r:=by
 unfold iy
 rw [h]
 cases x with
 | true=>exact h1 rfl
 | false=>exact h2 rfl
theorem Dy {α:Type} (enc:α->D) (l:List α) (lo hi:Option Int):∃ m:List α,cutD (l.map enc) lo hi=m.map enc /\ m.Sublist l:=by
 refine ⟨(l.drop (HT.qb l.length 0 lo)).take (HT.qb l.length l.length hi - HT.qb l.length 0 lo),?_,(List.take_sublist _ _).trans (List.drop_sublist _ _)⟩
 unfold cutD
 rw [List.length_map,List.map_take,List.map_drop]
theorem iL {f:List D->Option D} {g:DS->Option (List D)} {δ:DS} {ds:List D} {r:Option D} (h:g δ=some ds) (h2:f ds=r):eM f g δ=r:=by unfold eM; rw [h]; exact h2
theorem part_of {g:DS->Option D} {δ:DS} {i:Int} (h:g δ=some (.int i)):gI g δ=some (some i):=by unfold gI; rw [h]; rfl
theorem Ge (a b:Int):ba (.int a) (.int b)=some (.int (a + b)):=rfl
theorem xR {a b:DS->Option D} {δ:DS} {r:List Int} (h1:a δ=some (.list (r.map .int))) (h2:b δ=some (.list (r.map .int)) \/ b δ=some (dR r)) (hl:r.length < 32):Jz (aU (tY jy a (aU (cO (aY b) [] (g2 ba (af 0) (gC (.int 1))))))) δ=some ((led r).map .int):=by
 have hi:aY b δ=some (r.map .int):=by
  unfold aY
  rcases h2 with h2 | h2
  ·rw [h2]; rfl
  ·rw [h2]; rfl
 have hc:cO (aY b) [] (g2 ba (af 0) (gC (.int 1))) δ=some ((r.map (· + 1)).map .int):=g9 PyData.int PyData.int (fun x=>x + 1) r hi (by omega) (fun x _=>rfl)
 have P9:=Dx h1 (bS hc) (by simp; omega)
 refine M7 (bS P9) ?_ (by simp; omega)
 rw [List.map_append]
 rfl
theorem vj (c b:Int) (n:Nat) (hb:0 < b) (hn:n<=1000):fT (fM [.int c,.int b,.int (n:Nat)]) fun ds=>∃ l:List Int,ds=l.map .int /\ l.length=n /\ ∀ x∈l,0<=x /\ x < b:=by
 rw [vc]
 refine aX [some (.int c),some (.int b),some (.int (n:Nat)),some (.list []),none,none] rfl ?_
 refine l6 0 n (fun i δ=>∃ (l:List Int) (x y:Option D),δ=[some (.int c),some (.int b),some (.int (n:Nat)),some (.list (l.map .int)),x,y] /\ l.length=i /\ ∀ x∈l,0<=x /\ x < b) (iJ rfl (by omega)) ⟨[],none,none,rfl,rfl,by simp⟩ ?_ ?_
 ·rintro i δ hi ⟨l,x,y,rfl,hl,hx⟩
  have m1:cG (.int (c % 1000003)) (.int 48271)=some (.int (c % 1000003 * 48271)):=gM (mul_right (by decide) (by decide))
  have m2:cG (.int (0 + (i:Int))) (.int (0 + (i:Int)))=some (.int ((0 + (i:Int)) * (0 + (i:Int)))):=gM (mul_right (by omega) (by omega))
  have m3:cG (.int ((0 + (i:Int)) * (0 + (i:Int)))) (.int 69621)=some (.int ((0 + (i:Int)) * (0 + (i:Int)) * 69621)):=gM (mul_right (by decide) (by decide))
  have m4:cG (.int (0 + (i:Int))) (.int 16807)=some (.int ((0 + (i:Int)) * 16807)):=gM (mul_right (by decide) (by decide))
  refine ⟨_,[some (.int c),some (.int b),some (.int (n:Nat)),some (.list ((l ++ [_]).map .int)),some (.int (0 + (i:Int))),some (.int ((c % 1000003 * 48271 + (0 + (i:Int)) * (0 + (i:Int)) * 69621 + (0 + (i:Int)) * 16807) % 2147483647))],rfl,
   b8 [some (.int c),some (.int b),some (.int (n:Nat)),some (.list (l.map .int)),some (.int (0 + (i:Int))),some (.int ((c % 1000003 * 48271 + (0 + (i:Int)) * (0 + (i:Int)) * 69621 + (0 + (i:Int)) * 16807) % 2147483647))]
    (be (aw (aw (aw (aw (aw rfl rfl (fW (by decide))) rfl m1) (aw (aw rfl rfl m2) rfl m3) rfl) (aw rfl rfl m4) rfl) rfl (fW (by decide))))
    ((xQ (d:=.int (((c % 1000003 * 48271 + (0 + (i:Int)) * (0 + (i:Int)) * 69621 + (0 + (i:Int)) * 16807) % 2147483647 * 39373 + c) % 2147483629 / 13 % b)) rfl
      (aw (aw (aw (aw (aw rfl rfl (gM (mul_right (by decide) (by decide)))) rfl rfl) rfl (fW (by decide))) rfl (rH (by decide) (cc (iH (m:=4) (by decide)) (by decide)))) rfl (fW hb)) (by simp; omega)).trans (by rw [List.map_append]; rfl)),l ++ [_],_,_,rfl,by simp [hl],?_⟩
  intro z hz
  rcases List.mem_append.mp hz with q | q
  ·exact hx z q
  ·rw [List.mem_singleton.mp q]
   exact ⟨Int.emod_nonneg _ (by omega),Int.emod_lt_of_pos _ hb⟩
 ·rintro δ' ⟨l,x,y,rfl,hl,hx⟩
  exact ret (.list (l.map .int)) rfl (.mk rfl ⟨l,rfl,hl,hx⟩)
theorem ti (c b:Int) (n:Nat) (hb:0 < b) (Xi:bt b<=9000) (hn:n<=1000):fT (dS [.int c,.int b,.int (n:Nat)]) fun ds=>∃ l:List Int,ds=l.map .int /\ l.length=n /\ ∀ x∈l,0<=x /\ x < b:=by
 rw [sX]
 refine aX [some (.int c),some (.int b),some (.int (n:Nat)),some (.list []),none] rfl ?_
 refine l6 0 n (fun i δ=>∃ (c:Int) (l:List Int) (x:Option D),δ=[some (.int c),some (.int b),some (.int (n:Nat)),some (.list (l.map .int)),x] /\ l.length=i /\ ∀ x∈l,0<=x /\ x < b) (iJ rfl (by omega)) ⟨c,[],none,rfl,rfl,by simp⟩ ?_ ?_
 ·rintro i δ hi ⟨c,l,x,rfl,hl,hx⟩
  refine ⟨_,[some (.int (c / b)),some (.int b),some (.int (n:Nat)),some (.list ((l ++ [c % b]).map .int)),some (.int (0 + (i:Int)))],rfl,
   b8 [some (.int c),some (.int b),some (.int (n:Nat)),some (.list ((l ++ [c % b]).map .int)),some (.int (0 + (i:Int)))] ((xQ (d:=.int (c % b)) rfl (aw rfl rfl (fW hb)) (by simp; omega)).trans (by rw [List.map_append]; rfl)) (be (aw rfl rfl (rH hb Xi))),c / b,l ++ [c % b],_,rfl,by simp [hl],?_⟩
  intro z hz
  rcases List.mem_append.mp hz with q | q
  ·exact hx z q
  ·rw [List.mem_singleton.mp q]
   exact ⟨Int.emod_nonneg _ (by omega),Int.emod_lt_of_pos _ hb⟩
 ·rintro δ' ⟨c,l,x,rfl,hl,hx⟩
  exact ret (.list (l.map .int)) rfl (.mk rfl ⟨l,rfl,hl,hx⟩)
theorem zu {f:D->Option (Option D)} (hf:∀ (k:Nat) (x:Int),∃ b:Bool,f (.tuple [.int (k:Nat),.int x])=some (if b=true then some (.int x) else none)):∀ (l:List Int) (n:Nat),∃ m:List Int,pd f (((l.map PyData.int).zipIdx n).map fun p=>.tuple [.int (p.2:Nat),p.1])=some (m.map .int) /\ m.Sublist l
 | [],n=>⟨[],rfl,.slnil⟩
 | x :: l,n=>by
   obtain ⟨m,e,hs⟩:=zu hf l (n + 1)
   obtain ⟨b,hb⟩:=hf n x
   rw [List.map_cons,List.zipIdx_cons,List.map_cons,pd,hb,Option.bind_some,e,Option.bind_some]
   cases b with
   | true=>exact ⟨x :: m,rfl,hs.cons₂ x⟩
   | false=>exact ⟨m,rfl,hs.cons x⟩
theorem xS {l:List Int} {i:Int} (h0:0<=i) (h1:i < l.length):∃ x,x∈l /\ c8 (.list (l.map .int)) (.int i)=some (.int x):=by
 obtain ⟨k,rfl⟩:∃ k:Nat,i=(k:Int):=⟨i.toNat,by omega⟩
 have hk:k < l.length:=by omega
 exact ⟨l[k],List.getElem_mem hk,nS (by rw [List.getElem?_map,List.getElem?_eq_getElem hk]; rfl)⟩
theorem Qa:led [0]=[0,1]:=HM (by simp) (by intro z; simp)
theorem xT (c:Int) (m:Nat) (Qb:1<=m) (hm:m<=24):fT (gP [.int c,.int (m:Nat)]) fun d=>∃ p,d=bj p /\ Pl p /\ p.length<=m /\ ∀ r∈p,r.length<=25:=by
 rw [xM]
 have Xj:Ca (.int 10) (.int 18)=some (.int (10 ^ 18)):=M4 (k:=18) (by decide) (by decide)
 obtain ⟨many,M8,Kc,M9⟩:∃ many:Nat,100<=many /\ many<=300 /\ g2 ba (gC (.int (100))) (g2 cG (gC (.int (200))) (eM Fs (aa (g2 tZ (af 1) (gC (.int (12)))) ah))) [some (.int c),some (.int (m:Nat)),some (.int (c / 4)),none,none,none,none,none,none]=some (.int (many:Nat)):=by
  by_cases h:(12:Int) < (m:Int)
  ·refine ⟨300,by decide,by decide,aw rfl (aw rfl (show _=some (.int 1) from ?_) (gM (mul_right (by decide) (by decide)))) rfl⟩
   show some (PyData.int (if decide ((12:Int) < (m:Int))=true then 1 else 0))=_
   rw [decide_eq_true h]; rfl
  ·refine ⟨100,by decide,by decide,aw rfl (aw rfl (show _=some (.int 0) from ?_) (gM (mul_right (by decide) (by decide)))) rfl⟩
   show some (PyData.int (if decide ((12:Int) < (m:Int))=true then 1 else 0))=_
   rw [decide_eq_false h]; rfl
 have Gf:(0:Int) < (many:Int):=Int.ofNat_lt.mpr (Nat.lt_of_lt_of_le (by decide) M8)
 have Dz:many<=1000:=Nat.le_trans Kc (by decide)
 refine aX [some (.int c),some (.int (m:Nat)),some (.int (c / 4)),none,none,none,none,none,none] (be (aw rfl rfl (rH (by decide) (cc (iH (m:=4) (by decide)) (by decide))))) ?_
 refine aX [some (.int c),some (.int (m:Nat)),some (.int (c / 4)),some (.int (many:Nat)),none,none,none,none,none] (be M9) ?_
 obtain ⟨_,e1,l1,rfl,NQ,Vj⟩:=vj (c / 4) 3 many (by decide) Dz
 refine aX [some (.int c),some (.int (m:Nat)),some (.int (c / 4)),some (.int (many:Nat)),some (.list (l1.map .int)),none,none,none,none] (be (bS (dE (cons_of rfl (cons_of rfl (cons_of rfl rfl))) rfl e1))) ?_
 have dig:∃ dg:List Int,dg.length=many /\ iy (gB (g2 OK (eM oS (aa (af 0) ah)) (g2 Ca (gC (.int (10))) (gC (.int (18)))))) (aR 4 (aU (cm dS 3 (aa (af 2) (aa (gC (.int (3))) (aa (af 3) ah)))))) bW [some (.int c),some (.int (m:Nat)),some (.int (c / 4)),some (.int (many:Nat)),some (.list (l1.map .int)),none,none,none,none]
   =some (.nx [some (.int c),some (.int (m:Nat)),some (.int (c / 4)),some (.int (many:Nat)),some (.list (dg.map .int)),none,none,none,none]):=by
  obtain ⟨_,e2,l2,rfl,BS,PL⟩:=ti (c / 4) 3 many (by decide) (cc (iH (m:=4) (by decide)) (by decide)) Dz
  have hc:gB (g2 OK (eM oS (aa (af 0) ah)) (g2 Ca (gC (.int (10))) (gC (.int (18))))) [some (.int c),some (.int (m:Nat)),some (.int (c / 4)),some (.int (many:Nat)),some (.list (l1.map .int)),none,none,none,none]=some (decide ((10 ^ 18:Int)<=(if c < 0 then -c else c))):=cB (aw rfl Xj rfl)
  by_cases h:((10 ^ 18:Int)<=(if c < 0 then -c else c))
  ·exact ⟨l2,BS,hZ true (by rw [hc,decide_eq_true h]) (fun _=>be (bS (dE (cons_of rfl (cons_of rfl (cons_of rfl rfl))) rfl e2))) (fun z=>nomatch z)⟩
  ·exact ⟨l1,NQ,hZ false (by rw [hc,decide_eq_false h]) (fun z=>nomatch z) (fun _=>rfl)⟩
 obtain ⟨dg,Qc,Xk⟩:=dig
 refine aX _ Xk ?_
 refine aX [some (.int c),some (.int (m:Nat)),some (.int (c / 4)),some (.int (many:Nat)),some (.list (dg.map .int)),some (.list [dR [0]]),none,none,none] rfl ?_
 refine aX [some (.int c),some (.int (m:Nat)),some (.int (c / 4)),some (.int (many:Nat)),some (.list (dg.map .int)),some (.list [dR [0]]),some (.list (([0,1]:List Int).map .int)),none,none] rfl ?_
 refine aX [some (.int c),some (.int (m:Nat)),some (.int (c / 4)),some (.int (many:Nat)),some (.list (dg.map .int)),some (.list [dR [0]]),some (.list (([0,1]:List Int).map .int)),some (.int 0),none] rfl ?_
 refine rJ (fun k δ=>∃ (q:List (List Int)) (ck:List Int) (pos:Nat) (z:Option D),δ=[some (.int c),some (.int (m:Nat)),some (.int (c / 4)),some (.int (many:Nat)),some (.list (dg.map .int)),some (.list (([0] :: q).map dR)),some (.list (ck.map .int)),some (.int (pos:Nat)),z] /\
   Gd [0] q /\ q.length + 1<=m /\ (ck=[] \/ ck=led (lst [0] q)) /\ tf ck /\ (∀ x∈ck,0<=x /\ x<=(q.length:Int) + 1) /\ (∀ r∈q,r.length<=25) /\ k=2 * (m - q.length) + (if ck=[] then 0 else 1))
  (fun δ=>∃ (q:List (List Int)) (x y z:Option D),δ=[some (.int c),some (.int (m:Nat)),some (.int (c / 4)),some (.int (many:Nat)),some (.list (dg.map .int)),some (.list (([0] :: q).map dR)),x,y,z] /\ Gd [0] q /\ q.length + 1<=m /\ ∀ r∈q,r.length<=25)
  (2 * m + 1) ⟨[],[0,1],0,none,rfl,trivial,by simpa using Qb,.inr Qa.symm,by unfold tf; simp,by intro x hx; simp at hx; rcases hx with h | h <;> subst h <;> decide,by simp,by simp⟩ ?_ ?_
 ·rintro k δ ⟨q,ck,pos,z,rfl,hq,N5,Na,hr,hb,fG,rfl⟩
  have hlen:ck.length<=q.length + 2:=by
   have:=vi hr hb
   omega
  have cond:lG (gB (g2 v9 (eM dj (aa (af 5) ah)) (af 1))) (gB (g2 tZ (eM dj (aa (af 6) ah)) (gC (.int (0))))) [some (.int c),some (.int (m:Nat)),some (.int (c / 4)),some (.int (many:Nat)),some (.list (dg.map .int)),some (.list (([0] :: q).map dR)),some (.list (ck.map .int)),some (.int (pos:Nat)),z]
    =some (decide ((((([0] :: q).map dR).length:Nat):Int) < (m:Int)) && decide ((0:Int) < (((ck.map PyData.int).length:Nat):Int))):=by
   by_cases h:((((([0] :: q).map dR).length:Nat):Int) < (m:Int))
   ·rw [decide_eq_true h,Bool.true_and]
    exact J6 (cB (b:=true) (show _=_ from congrArg (fun b=>some (PyData.bool b)) (decide_eq_true h))) (cB rfl)
   ·rw [decide_eq_false h,Bool.false_and]
    have h1:gB (g2 v9 (eM dj (aa (af 5) ah)) (af 1)) [some (.int c),some (.int (m:Nat)),some (.int (c / 4)),some (.int (many:Nat)),some (.list (dg.map .int)),some (.list (([0] :: q).map dR)),some (.list (ck.map .int)),some (.int (pos:Nat)),z]=some false:=
     cB (b:=false) (show _=_ from congrArg (fun b=>some (PyData.bool b)) (decide_eq_false h))
    unfold lG
    rw [h1]; rfl
  rw [cond]
  cases qh:(decide ((((([0] :: q).map dR).length:Nat):Int) < (m:Int)) && decide ((0:Int) < (((ck.map PyData.int).length:Nat):Int))) with
  | false=>exact .inl ⟨rfl,q,_,_,_,rfl,hq,N5,fG⟩
  | true=>
    rw [Bool.and_eq_true,decide_eq_true_eq,decide_eq_true_eq] at qh
    have Xl:q.length + 1 < m:=by
     have:=qh.1
     simp at this
     omega
    have iU:ck≠[]:=by
     intro e
     subst e
     simp at qh
    have mz:ck=led (lst [0] q):=Na.resolve_left iU
    refine .inr ⟨rfl,?_⟩
    have comp:∃ r1:List Int,cz (dB (af 6)) 2 [4,3,7] (fU 2 (bJ (aE 0) (bJ (aE 1) gK))) (gB (g2 tZ (g2 c8 (af 2) (g2 fb (g2 ba (af 4) (af 0)) (af 3))) (gC (.int (0))))) (af 1)
      [some (.int c),some (.int (m:Nat)),some (.int (c / 4)),some (.int (many:Nat)),some (.list (dg.map .int)),some (.list (([0] :: q).map dR)),some (.list (ck.map .int)),some (.int (pos:Nat)),z]=some (r1.map .int) /\ r1.Sublist ck:=by
     obtain ⟨f,ef⟩:∃ f:D->Option (Option D),f=fun d=>(fU 2 (bJ (aE 0) (bJ (aE 1) gK)) d (List.replicate 2 none ++ c5 [4,3,7] [some (.int c),some (.int (m:Nat)),some (.int (c / 4)),some (.int (many:Nat)),some (.list (dg.map .int)),some (.list (([0] :: q).map dR)),some (.list (ck.map .int)),some (.int (pos:Nat)),z])).bind fun dZ=>
       (gB (g2 tZ (g2 c8 (af 2) (g2 fb (g2 ba (af 4) (af 0)) (af 3))) (gC (.int (0)))) dZ).bind fun b=>if b=true then (af 1 dZ).map some else some none:=⟨_,rfl⟩
     have hf:∀ (k:Nat) (x:Int),∃ b:Bool,f (.tuple [.int (k:Nat),.int x])=some (if b=true then some (.int x) else none):=by
      intro k x
      obtain ⟨y,_,ey⟩:=xS (l:=dg) (i:=((pos:Nat) + (k:Nat):Int) % (many:Nat)) (Int.emod_nonneg _ (Int.ne_of_gt Gf)) (by rw [Qc]; exact Int.emod_lt_of_pos _ Gf)
      refine ⟨decide (0 < y),?_⟩
      rw [ef]
      show (Option.bind (some [some (PyData.int (k:Nat)),some (.int x),some (.list (dg.map .int)),some (.int (many:Nat)),some (.int (pos:Nat))]) _)=_
      rw [Option.bind_some]
      have hb:gB (g2 tZ (g2 c8 (af 2) (g2 fb (g2 ba (af 4) (af 0)) (af 3))) (gC (.int (0)))) [some (PyData.int (k:Nat)),some (.int x),some (.list (dg.map .int)),some (.int (many:Nat)),some (.int (pos:Nat))]=some (decide (0 < y)):=
       cB (aw (aw rfl (aw (aw rfl rfl rfl) rfl (fW Gf)) ey) rfl rfl)
      rw [hb,Option.bind_some]
      cases decide (0 < y) <;> rfl
     obtain ⟨m1,Vr,Ct⟩:=zu hf ck 0
     refine ⟨m1,?_,Ct⟩
     unfold cz
     rw [show dB (af 6) [some (.int c),some (.int (m:Nat)),some (.int (c / 4)),some (.int (many:Nat)),some (.list (dg.map .int)),some (.list (([0] :: q).map dR)),some (.list (ck.map .int)),some (.int (pos:Nat)),z]=some (fV (ck.map .int)) from rfl,Option.bind_some,if_pos (by rw [mH,List.length_map]; omega)]
     rw [ef] at Vr
     exact Vr
    obtain ⟨r1,Vs,Ct⟩:=comp
    have slice:∃ r:List Int,r.Sublist ck /\ iy (gB (g2 tZ (g2 fb (af 0) (gC (.int (4)))) (gC (.int (1))))) (aR 8 (aU (wN (af 6) (gI (g2 c8 (af 4) (g2 fb (af 7) (af 3)))) (gI (eM qZ (aa (gC (.int (0))) (aa (g2 e9 (eM dj (aa (af 6) ah)) (g2 c8 (af 4) (g2 fb (g2 ba (af 7) (gC (.int (1)))) (af 3)))) ah))))))) bW
      [some (.int c),some (.int (m:Nat)),some (.int (c / 4)),some (.int (many:Nat)),some (.list (dg.map .int)),some (.list (([0] :: q).map dR)),some (.list (ck.map .int)),some (.int ((pos:Nat) + (ck.map PyData.int).length)),some (.list (r1.map .int))]
      =some (.nx [some (.int c),some (.int (m:Nat)),some (.int (c / 4)),some (.int (many:Nat)),some (.list (dg.map .int)),some (.list (([0] :: q).map dR)),some (.list (ck.map .int)),some (.int ((pos:Nat) + (ck.map PyData.int).length)),some (.list (r.map .int))]):=by
     obtain ⟨y1,_,Xm⟩:=xS (l:=dg) (i:=((pos:Nat) + (ck.map PyData.int).length:Int) % (many:Nat)) (Int.emod_nonneg _ (Int.ne_of_gt Gf)) (by rw [Qc]; exact Int.emod_lt_of_pos _ Gf)
     obtain ⟨y2,_,Xn⟩:=xS (l:=dg) (i:=((pos:Nat) + (ck.map PyData.int).length + 1:Int) % (many:Nat)) (Int.emod_nonneg _ (Int.ne_of_gt Gf)) (by rw [Qc]; exact Int.emod_lt_of_pos _ Gf)
     have hc:gB (g2 tZ (g2 fb (af 0) (gC (.int (4)))) (gC (.int (1)))) [some (.int c),some (.int (m:Nat)),some (.int (c / 4)),some (.int (many:Nat)),some (.list (dg.map .int)),some (.list (([0] :: q).map dR)),some (.list (ck.map .int)),some (.int ((pos:Nat) + (ck.map PyData.int).length)),some (.list (r1.map .int))]=some (decide (1 < c % 4)):=
      cB (aw (aw rfl rfl (fW (by decide))) rfl rfl)
     by_cases h:1 < c % 4
     ·obtain ⟨r2,Xo,kb⟩:=Dy PyData.int ck (some y1) (some (if ((ck.map PyData.int).length:Int) - y2 > 0 then ((ck.map PyData.int).length:Int) - y2 else 0))
      refine ⟨r2,kb,hZ true (by rw [hc,decide_eq_true h]) (fun _=>be (bS ?_)) (fun z=>nomatch z)⟩
      have f1:gI (g2 c8 (af 4) (g2 fb (af 7) (af 3))) [some (.int c),some (.int (m:Nat)),some (.int (c / 4)),some (.int (many:Nat)),some (.list (dg.map .int)),some (.list (([0] :: q).map dR)),some (.list (ck.map .int)),some (.int ((pos:Nat) + (ck.map PyData.int).length)),some (.list (r1.map .int))]=some (some y1):=by
       exact part_of (aw rfl (aw rfl rfl (fW Gf)) Xm)
      have f2:gI (eM qZ (aa (gC (.int (0))) (aa (g2 e9 (eM dj (aa (af 6) ah)) (g2 c8 (af 4) (g2 fb (g2 ba (af 7) (gC (.int (1)))) (af 3)))) ah))) [some (.int c),some (.int (m:Nat)),some (.int (c / 4)),some (.int (many:Nat)),some (.list (dg.map .int)),some (.list (([0] :: q).map dR)),some (.list (ck.map .int)),some (.int ((pos:Nat) + (ck.map PyData.int).length)),some (.list (r1.map .int))]
        =some (some (if ((ck.map PyData.int).length:Int) - y2 > 0 then ((ck.map PyData.int).length:Int) - y2 else 0)):=by
       have g:g2 e9 (eM dj (aa (af 6) ah)) (g2 c8 (af 4) (g2 fb (g2 ba (af 7) (gC (.int (1)))) (af 3))) [some (.int c),some (.int (m:Nat)),some (.int (c / 4)),some (.int (many:Nat)),some (.list (dg.map .int)),some (.list (([0] :: q).map dR)),some (.list (ck.map .int)),some (.int ((pos:Nat) + (ck.map PyData.int).length)),some (.list (r1.map .int))]=some (.int (((ck.map PyData.int).length:Int) - y2)):=
        aw rfl (aw rfl (aw (aw rfl rfl rfl) rfl (fW Gf)) Xn) rfl
       exact part_of (iL (cons_of rfl (cons_of g rfl)) rfl)
      unfold wN
      rw [f1,f2]
      show some (cutD (ck.map .int) _ _)=_
      rw [Xo]
     ·exact ⟨r1,Ct,hZ false (by rw [hc,decide_eq_false h]) (fun z=>nomatch z) (fun _=>rfl)⟩
    obtain ⟨r,hs,Vt⟩:=slice
    have Xp:tf r:=hr.sublist hs
    have Kd:r.length<=25:=by have:=hs.length_le; omega
    have Vu:∀ x∈r,0<=x /\ x<=(q.length:Int) + 1:=fun x hx=>hb x (hs.subset hx)
    have e6:=xR (a:=af 8) (b:=af 8) (δ:=[some (.int c),some (.int (m:Nat)),some (.int (c / 4)),some (.int (many:Nat)),some (.list (dg.map .int)),some (.list (([0] :: q).map dR)),some (.list (ck.map .int)),some (.int ((pos:Nat) + (ck.map PyData.int).length)),some (.list (r.map .int))]) (r:=r) rfl (.inl rfl) (by omega)
    by_cases N6:r=[]
    ·subst N6
     refine ⟨[some (.int c),some (.int (m:Nat)),some (.int (c / 4)),some (.int (many:Nat)),some (.list (dg.map .int)),some (.list (([0] :: q).map dR)),some (.list (([]:List Int).map .int)),some (.int (((pos + ck.length:Nat):Nat):Int)),some (.list (([]:List Int).map .int))],2 * (m - q.length),?_,by rw [if_neg iU]; omega,q,[],pos + ck.length,_,rfl,hq,N5,.inl rfl,.nil,by simp,fG,by simp⟩
     refine b8 _ (be (bS Vs)) (b8 _ (be (aw rfl rfl rfl)) (b8 _ Vt (b8 _ (be (bS e6)) ?_)))
     refine (hZ false rfl (fun z=>nomatch z) fun _=>rfl).trans ?_
     rw [List.length_map]
     push_cast
     rfl
    ·have Xq:Nx (lst [0] q) r:=⟨N6,Xp,fun x hx=>mz ▸ hs.subset hx⟩
     refine ⟨[some (.int c),some (.int (m:Nat)),some (.int (c / 4)),some (.int (many:Nat)),some (.list (dg.map .int)),some (.list (([0] :: (q ++ [r])).map dR)),some (.list ((led r).map .int)),some (.int (((pos + ck.length:Nat):Nat):Int)),some (.list (r.map .int))],2 * (m - (q ++ [r]).length) + (if led r=[] then 0 else 1),?_,?_,q ++ [r],led r,pos + ck.length,_,rfl,vh hq Xq,by simp; omega,.inr (by rw [lst_snoc]),gA,?_,?_,rfl⟩
     ·refine b8 _ (be (bS Vs)) (b8 _ (be (aw rfl rfl rfl)) (b8 _ Vt (b8 _ (be (bS e6)) ?_)))
      have AK:(0:Int) < ((r.map PyData.int).length:Int):=by
       have:=List.length_pos_iff.mpr N6
       simp; omega
      refine (hZ true (cB (b:=true) (show _=_ from congrArg (fun b=>some (PyData.bool b)) (decide_eq_true AK))) (fun _=>xQ (ds:=([0] :: q).map dR) (d:=dR r) rfl rfl (by simp; omega)) fun z=>nomatch z).trans ?_
      rw [List.length_map,<- List.cons_append,List.map_append]
      push_cast
      rfl
     ·have hl:led r≠[]:=fun e=>by
       obtain ⟨x,hx⟩:=List.exists_mem_of_ne_nil r N6
       have:=hX.mpr (.inl hx)
       rw [e] at this; simp at this
      rw [if_neg hl,if_neg iU]
      simp
      omega
     ·intro x hx
      rcases hX.mp hx with h | h
      ·have:=Vu x h; simp; omega
      ·have:=Vu _ h; simp; omega
     ·intro s lE
      rcases List.mem_append.mp lE with h | h
      ·exact fG s h
      ·rw [List.mem_singleton.mp h]; exact Kd
 ·rintro δ' ⟨q,x,y,z,rfl,hq,N5,fG⟩
  refine ret (bj ([0] :: q)) rfl (.mk rfl ⟨[0] :: q,rfl,⟨q,rfl,hq⟩,by simpa using N5,fun r hr=>?_⟩)
  rcases List.mem_cons.mp hr with h | h
  ·rw [h]; decide
  ·exact fG r h
theorem Gg {i:Int} {T:List Int}:Jl (.int i) (.list (T.map .int))=some (.bool (decide (i∈T))):=by
 have hf:(jz (.int i) && (T.map PyData.int).all jz)=true:=by simp [jz]
 show (if (jz (.int i) && (T.map PyData.int).all jz)=true then some (PyData.bool ((T.map PyData.int).any fun z=>Ck z (.int i))) else none)=_
 rw [if_pos hf,List.any_map]
 congr 2
 rw [Bool.eq_iff_iff,List.any_eq_true,decide_eq_true_eq]
 constructor
 ·rintro ⟨x,hx,e⟩
  rw [Function.comp,yY,decide_eq_true_eq] at e
  rw [<- e]; exact hx
 ·intro h
  exact ⟨i,h,by rw [Function.comp,yY]; simp⟩
theorem DA {i:Int} {T:List Int}:Jl (.int i) (dR T)=some (.bool (decide (i∈T))):=Gg
theorem dd {a:Int} (b:Int) (h:0 < b) (h2:b.natAbs < 2 ^ 70):kB (.int a) (.int b)=some (.int (a / b)):=rH h (cc (iH h2) (by decide))
theorem Ke {a b:DS->Option D} {δ:DS} {x y:Bool} (h1:a δ=some (.bool x)) (h2:x=true->b δ=some (.bool y)):yS a b δ=some (.bool (x && y)):=by
 unfold yS
 rw [cB h1,Option.bind_some]
 cases x with
 | true=>rw [if_pos rfl,h2 rfl]; rfl
 | false=>rfl
theorem DB {p:List (List Int)} {i:Int} (h0:0<=i) (h1:i < (p.length:Int)):c8 (bj p) (.int i)=some (dR (p.getD i.toNat [])):=by
 obtain ⟨k,rfl⟩:∃ k:Nat,i=(k:Int):=⟨i.toNat,by omega⟩
 have hk:k < p.length:=by omega
 refine nS ?_
 rw [List.getElem?_map,Int.toNat_natCast,List.getD_eq_getElem?_getD,List.getElem?_eq_getElem hk]
 rfl
theorem xU (c:Int):∃ m:Nat,1<=m /\ m<=12 /\ gQ [.int c]=some (.int (m:Nat)):=by
 by_cases h:c / 7 % 8=1
 ·have h0:=Int.emod_nonneg (c / 56) (b:=12) (by decide)
  have h1:=Int.emod_lt_of_pos (c / 56) (show (0:Int) < 12 by decide)
  refine ⟨(1 + c / 56 % 12).toNat,by omega,by omega,?_⟩
  rw [pG]
  refine br (l7 true (cB (b:=true) ?_) (fun _=>n6 (.int (1 + c / 56 % 12)) (aw rfl (aw (aw rfl rfl (dd 56 (by decide) (by decide))) rfl (fW (by decide))) rfl) (.mk rfl ?_)) fun z=>nomatch z)
  ·refine (aw (aw (aw rfl rfl (dd 7 (by decide) (by decide))) rfl (fW (by decide))) rfl rfl).trans ?_
   rw [mO,decide_eq_true h]
  ·rw [show (((1 + c / 56 % 12).toNat:Nat):Int)=1 + c / 56 % 12 by omega]
 ·have h0:=Int.emod_nonneg c (b:=7) (by decide)
  have h1:=Int.emod_lt_of_pos c (show (0:Int) < 7 by decide)
  refine ⟨(1 + c % 7).toNat,by omega,by omega,?_⟩
  rw [pG]
  refine br (kL (cB (b:=false) ?_) (ret (.int (1 + c % 7)) (aw rfl (aw rfl rfl (fW (by decide))) rfl) (.mk rfl ?_)))
  ·refine (aw (aw (aw rfl rfl (dd 7 (by decide) (by decide))) rfl (fW (by decide))) rfl rfl).trans ?_
   rw [mO,decide_eq_false h]
  ·rw [show (((1 + c % 7).toNat:Nat):Int)=1 + c % 7 by omega]
abbrev WF:=Int->Int->Int
def dC (c:Int×Int):D:=.tuple [.int c.1,.int c.2]
def cC (F:WF) (c:Int×Int):WF:=fun x y=>F x y + (if x=c.1 + 1 /\ y=c.2 then F c.1 c.2 else 0) + (if x=c.1 /\ y=c.2 + 1 then F c.1 c.2 else 0)
def jn (c:Int×Int):WF:=fun x y=>if x=c.1 /\ y=c.2 then 1 else 0
def gX (n:Nat) (r:List Int):List (Int×Int):=r.map fun b=>(b,(n:Int) - b)
def a9:Nat->List (List Int)->List (Int×Int)
 | _,[]=>[]
 | n,r :: p=>gX n r ++ a9 (n + 1) p
theorem gE (r:List Int):∀ (p:List (List Int)) (n:Nat),a9 n (p ++ [r])=a9 n p ++ gX (n + p.length) r
 | [],n=>by simp [a9]
 | s :: p,n=>by
   rw [List.cons_append,a9,a9,gE r p (n + 1),List.append_assoc,List.length_cons,show n + 1 + p.length=n + (p.length + 1) by omega]
theorem pJ:∀ (p:List (List Int)) (n:Nat),(∀ r∈p,r.length<=25)->(a9 n p).length<=25 * p.length
 | [],_,_=>by simp [a9]
 | r :: p,n,h=>by
   have h1:=pJ p (n + 1) fun s hs=>h s (List.mem_cons_of_mem _ hs)
   have h2:=h r List.mem_cons_self
   rw [a9,List.length_append,List.length_cons,gX,List.length_map]
   omega
def lv (A:Int->Int) (r:List Int) (b:Int):Int:=(if b - 1∈r then A (b - 1) else 0) + (if b∈r then A b else 0)
theorem DC (A:Int->Int) (b:Int):lv A [] b=0:=by simp [lv]
theorem DD {A:Int->Int} {r s:List Int} (h:∀ x,x∈r↔x∈s) (b:Int):lv A r b=lv A s b:=by simp only [lv,h]
def WW:(Int->Int)->List (List Int)->Nat->Int->Int
 | A,_,0,b=>A b
 | _,[],_ + 1,_=>0
 | A,r :: p,k + 1,b=>WW (lv A r) p k b
theorem WW_0 (A:Int->Int) (p:List (List Int)):WW A p 0=A:=by funext b; cases p <;> rfl
theorem j7:∀ (p:List (List Int)) (A:Int->Int) (k:Nat) (b:Int),WW A p (k + 1) b=lv (WW A p k) (p.getD k []) b
 | [],A,k,b=>by
   rw [show ([]:List (List Int)).getD k []=[] from rfl,DC]; rfl
 | r :: p,A,0,b=>by
   show WW (lv A r) p 0 b=lv (WW A (r :: p) 0) r b
   rw [WW_0,WW_0]
 | r :: p,A,k + 1,b=>by
   show WW (lv A r) p (k + 1) b=lv (WW (lv A r) p k) (p.getD k []) b
   exact j7 p (lv A r) k b
structure Nb (n:Nat) (F:WF) (A B:Int->Int):Prop where
 N4:∀ x y:Int,x + y=(n:Int)->F x y=A x
 Vv:∀ x y:Int,x + y=(n:Int) + 1->F x y=B x
 up:∀ x y:Int,(n:Int) + 1 < x + y->F x y=0
theorem DE {n:Nat} {F:WF} {A:Int->Int} {bs:List Int} {b:Int} (h:Nb n F A (lv A bs)) (hb:b∉bs):Nb n (cC F (b,(n:Int) - b)) A (lv A (b :: bs)) /\ ∀ x y:Int,x + y < (n:Int)->cC F (b,(n:Int) - b) x y=F x y:=by
 have e:∀ x y,cC F (b,(n:Int) - b) x y=F x y + (if x=b + 1 /\ y=(n:Int) - b then A b else 0) + (if x=b /\ y=(n:Int) - b + 1 then A b else 0):=by
  intro x y
  unfold cC
  rw [h.N4 b ((n:Int) - b) (by omega)]
 refine ⟨⟨?_,?_,?_⟩,?_⟩
 ·intro x y Bp
  rw [e,if_neg (by omega),if_neg (by omega),h.N4 x y Bp]; omega
 ·intro x y Bp
  rw [e,h.Vv x y Bp]
  have e1:(x=b + 1 /\ y=(n:Int) - b)↔x - 1=b:=by constructor <;> intro z <;> omega
  have e2:(x=b /\ y=(n:Int) - b + 1)↔x=b:=by constructor <;> intro z <;> omega
  simp only [e1,e2,lv,List.mem_cons]
  by_cases c1:x - 1=b
  ·have c2:¬ x=b:=by omega
   have c3:x - 1∉bs:=by rw [c1]; exact hb
   simp only [c1,c2,true_or,false_or,if_true,if_false,if_neg hb]
   omega
  ·by_cases c2:x=b
   ·subst c2
    simp only [c1,true_or,false_or,if_true,if_false,if_neg hb]
    omega
   ·simp only [c1,c2,false_or,if_false]
    omega
 ·intro x y Bp
  rw [e,if_neg (by omega),if_neg (by omega),h.up x y Bp]; rfl
 ·intro x y Bp
  rw [e,if_neg (by omega),if_neg (by omega)]; omega
theorem zv {n:Nat} {A:Int->Int}:∀ (r bs:List Int) (F:WF),Nb n F A (lv A bs)->(∀ x∈r,x∉bs)->r.Nodup->Nb n ((gX n r).foldl cC F) A (lv A (r ++ bs)) /\ ∀ x y:Int,x + y < (n:Int)->(gX n r).foldl cC F x y=F x y
 | [],bs,F,h,_,_=>⟨h,fun _ _ _=>rfl⟩
 | b :: r,bs,F,h,hd,nd=>by
   obtain ⟨h1,h2⟩:=DE h (hd b List.mem_cons_self)
   obtain ⟨n1,n2⟩:=List.nodup_cons.mp nd
   obtain ⟨h3,h4⟩:=zv r (b :: bs) _ h1 (fun x hx z=>by
    rcases List.mem_cons.mp z with q | q
    ·subst q; exact n1 hx
    ·exact hd x (List.mem_cons_of_mem _ hx) q) n2
   refine ⟨?_,fun x y Bp=>(h4 x y Bp).trans (h2 x y Bp)⟩
   have:lv A (r ++ b :: bs)=lv A ((b :: r) ++ bs):=by
    funext x
    exact DD (fun z=>by simp only [List.mem_append,List.mem_cons,List.cons_append]; constructor <;> rintro (q | q | q) <;> simp [q]) x
   rw [<- this]
   exact h3
theorem pK:∀ (p:List (List Int)) (n:Nat) (A:Int->Int) (F:WF),(∀ r∈p,r.Nodup)->(∀ x y:Int,x + y=(n:Int)->F x y=A x)->(∀ x y:Int,(n:Int) < x + y->F x y=0)->
  ∀ x y:Int,(x + y < (n:Int)->(a9 n p).foldl cC F x y=F x y) /\ ∀ k:Nat,x + y=(n:Int) + (k:Int)->(a9 n p).foldl cC F x y=WW A p k x
 | [],n,A,F,_,h0,h1,x,y=>by
   refine ⟨fun _=>rfl,fun k hk=>?_⟩
   show F x y=_
   cases k with
   | zero=>rw [WW_0]; exact h0 x y (by omega)
   | succ k=>exact h1 x y (by omega)
 | r :: p,n,A,F,hn,h0,h1,x,y=>by
   have L0:Nb n F A (lv A []):=⟨h0,fun x y q=>by rw [DC]; exact h1 x y (by omega),fun x y q=>h1 x y (by omega)⟩
   obtain ⟨L1,K1⟩:=zv r [] F L0 (fun x _ z=>by simp at z) (hn r List.mem_cons_self)
   rw [List.append_nil] at L1
   have ih:=pK p (n + 1) (lv A r) ((gX n r).foldl cC F) (fun s hs=>hn s (List.mem_cons_of_mem _ hs)) (fun x y q=>L1.Vv x y (by push_cast at q; omega)) (fun x y q=>L1.up x y (by push_cast at q; omega)) x y
   rw [a9,List.foldl_append]
   refine ⟨fun q=>(ih.1 (by push_cast; omega)).trans (K1 x y q),fun k hk=>?_⟩
   cases k with
   | zero=>
     rw [WW_0,ih.1 (by push_cast; omega)]
     exact L1.N4 x y (by omega)
   | succ k=>exact ih.2 k (by push_cast; push_cast at hk; omega)
theorem j8 {l:List Int} (h:tf l):l.Nodup:=h.imp fun z e=>by omega
theorem zw:∀ {q:List (List Int)} {r:List Int} {n:Nat},(∀ x∈r,0<=x /\ x<=(n:Int))->Gd r q->(∀ s∈q,s.Nodup) /\ ∀ k,∀ x∈q.getD k [],0<=x /\ x<=((n + 1 + k:Nat):Int)
 | [],_,_,_,_=>⟨by simp,fun k x hx=>by simp at hx⟩
 | s :: q,r,n,hr,hc=>by
   have hs:∀ x∈s,0<=x /\ x<=((n + 1:Nat):Int):=fun x hx=>by
    rcases hX.mp (hc.1.2.2 x hx) with h | h
    ·have:=hr x h; omega
    ·have:=hr _ h; omega
   obtain ⟨i1,i2⟩:=zw (n:=n + 1) hs hc.2
   refine ⟨fun t ht=>?_,fun k x hx=>?_⟩
   ·rcases List.mem_cons.mp ht with z | z
    ·rw [z]; exact j8 hc.1.2.1
    ·exact i1 t z
   ·cases k with
    | zero=>exact hs x (by simpa using hx)
    | succ k=>
      have:=i2 k x (by simpa using hx)
      omega
theorem zx {p:List (List Int)} (h:Pl p):(∀ s∈p,s.Nodup) /\ ∀ k,∀ x∈p.getD k [],0<=x /\ x<=(k:Int):=by
 obtain ⟨q,rfl,hc⟩:=h.ex
 obtain ⟨i1,i2⟩:=zw (q:=q) (r:=[0]) (n:=0) (by simp) hc
 refine ⟨fun s hs=>?_,fun k x hx=>?_⟩
 ·rcases List.mem_cons.mp hs with z | z
  ·rw [z]; simp
  ·exact i1 s z
 ·cases k with
  | zero=>simp at hx; subst hx; simp
  | succ k=>
    have:=i2 k x (by simpa using hx)
    omega
structure Dt (kds:List (D×D)) (F:WF):Prop where
 fn:Ae kds=false
 Qd:∀ b g:Int,(bD kds [.inl b,.inl g]).getD (.int 0)=.int (F b g)
instance {kds:List (D×D)} {F:WF}:CoeFun (Dt kds F) (fun _=>∀ b g:Int,(bD kds [.inl b,.inl g]).getD (.int 0)=.int (F b g)):=⟨Dt.Qd⟩
theorem Gh {kds:List (D×D)} {k:List Key} {d:D} (h:Ae kds=false):Ae (fK kds k d)=false:=by
 unfold fK
 split
 ·cases kds with
  | nil=>rfl
  | cons p r=>
    obtain ⟨p1,p2⟩:=p
    rw [List.map_cons]
    split <;> (cases p1 with
     | list l=>
       cases l with
       | nil=>cases h
       | cons _ _=>rfl
     | _=>rfl)
 ·cases kds with
  | nil=>rfl
  | cons p r=>
    obtain ⟨p1,p2⟩:=p
    cases p1 with
    | list l=>
      cases l with
      | nil=>cases h
      | cons _ _=>rfl
    | _=>rfl
theorem jJ {gd gk ge:DS->Option D} {δ:DS} {kds:List (D×D)} {c:Int×Int} {z:D} (h1:gd δ=some (.dict kds)) (h2:gk δ=some (dC c)) (h3:ge δ=some z) (hf:Ae kds=false:=by first | assumption | exact Dt.fn (by assumption)):kI gd gk ge δ=some ((bD kds [.inl c.1,.inl c.2]).getD z):=by
 unfold kI; rw [h1,h2,h3]
 show (if Ae kds=true then none else _)=_
 rw [hf]; rfl
theorem n8 {gd gk:DS->Option D} {δ:DS} {kds:List (D×D)} {c:Int×Int} (h1:gd δ=some (.dict kds)) (h2:gk δ=some (dC c)) (hf:Ae kds=false:=by first | assumption | exact Dt.fn (by assumption)):jm gd gk δ=bD kds [.inl c.1,.inl c.2]:=by
 unfold jm; rw [h1,h2]
 show (if Ae kds=true then none else _)=_
 rw [hf]; rfl
theorem n9 {i:Nat} {gk ge:DS->Option D} {δ:DS} {kds:List (D×D)} {c:Int×Int} {d:D} (h1:af i δ=some (.dict kds)) (h2:gk δ=some (dC c)) (h3:ge δ=some d) (h4:kds.length < 100000):rA i gk ge δ=some (.nx (δ.set i (some (.dict (fK kds [.inl c.1,.inl c.2] d))))):=by
 unfold rA; rw [h1,h2,h3]
 show (if kds.length < 100000 then _ else _)=_
 rw [if_pos h4]
theorem tj {b g x y:Int}:(([.inl b,.inl g]:List Key)=[.inl x,.inl y])↔b=x /\ g=y:=by simp
theorem Nc {t:D->DS->Option DS} {b:DS->Option Res} {d1 d2:D} {δ:DS} (dZ J5 Vw Vx:DS) (h1:t d1 δ=some dZ) (h2:b dZ=some (.nx J5)) (h3:t d2 J5=some Vw) (h4:b Vw=some (.nx Vx)):ke t b [d1,d2] δ=some (.nx Vx):=by
 simp only [ke,h1,h2,h3,h4,Option.bind_some]
theorem Dt.put {kds:List (D×D)} {F:WF} (h:Dt kds F) (x y v:Int):Dt (fK kds [.inl x,.inl y] (.int v)) (fun b g=>if b=x /\ g=y then v else F b g):=by
 refine ⟨Gh h.fn,fun b g=>?_⟩
 show _=PyData.int (if b=x /\ g=y then v else F b g)
 rw [Az]
 by_cases e:b=x /\ g=y
 ·rw [if_pos (tj.mpr e),if_pos e]; rfl
 ·rw [if_neg (fun z=>e (tj.mp z)),if_neg e]; exact h b g
theorem tm {i:Nat} {g:DS->Option (List D)} {δ:DS} {ds zs:List D} (h1:af i δ=some (.list ds)) (h2:g δ=some zs) (h3:ds.length + zs.length<=100000):wR i g δ=some (.nx (δ.set i (some (.list (ds ++ zs))))):=by
 unfold wR
 rw [h1,h2]
 show (if ds.length + zs.length<=100000 then _ else _)=_
 rw [if_pos h3]
theorem Gi (p:List (List Int)):fV (p.map dR)=p.zipIdx.map fun x=>.tuple [.int (x.2:Nat),dR x.1]:=by
 unfold fV
 rw [List.zipIdx_map,List.map_map]
 rfl
theorem xV {p:List (List Int)} (hl:p.length<=24) (fG:∀ r∈p,r.length<=25):fj [bj p]=some ((a9 0 p).map dC):=by
 rw [xI]
 refine br ?_
 refine aX [some (bj p),some (.list []),none,none] rfl ?_
 refine i5 (fun x:List Int×Nat=>PyData.tuple [.int (x.2:Nat),dR x.1]) p.zipIdx (fun i δ=>∃ a b,δ=[some (bj p),some (.list ((a9 0 (p.take i)).map dC)),a,b]) ?_ ⟨none,none,rfl⟩ ?_ ?_
 ·show some (fV (p.map dR))=_
  rw [Gi]
 ·rintro i ⟨r,n⟩ δ hi ⟨a,b,rfl⟩
  rw [List.getElem?_zipIdx] at hi
  cases er:p[i]? with
  | none=>rw [er] at hi; cases hi
  | some r'=>
    rw [er] at hi
    simp only [Option.map_some,Nat.zero_add,Option.some.injEq,Prod.mk.injEq] at hi
    obtain ⟨rfl,rfl⟩:=hi
    have FE:=(List.getElem?_eq_some_iff.mp er).1
    have hr:=fG r' (List.mem_of_getElem? er)
    have ht:p.take (i + 1)=p.take i ++ [r']:=by
     rw [List.take_add_one,er]; rfl
    have Gj:(p.take i).length=i:=by rw [List.length_take]; omega
    have ZO:=pJ (p.take i) 0 fun s hs=>fG s (List.mem_of_mem_take hs)
    refine ⟨_,[some (bj p),some (.list ((a9 0 (p.take (i + 1))).map dC)),some (.int (i:Nat)),some (dR r')],rfl,?_,_,_,rfl⟩
    have hc:cO (aY (af 3)) [2] (aM (aa (af 0) (aa (g2 e9 (af 1) (af 0)) ah))) [some (bj p),some (.list ((a9 0 (p.take i)).map dC)),some (.int (i:Nat)),some (dR r')]=some ((r'.map fun b=>(b,(i:Int) - b)).map dC):=
     g9 PyData.int dC (fun b=>(b,(i:Int) - b)) r' rfl (by omega) fun x _=>rfl
    refine (tm rfl hc (by simp only [List.length_map]; omega)).trans ?_
    rw [ht,gE,Gj,Nat.zero_add,List.map_append]
    rfl
 ·rintro δ' ⟨a,b,rfl⟩
  refine ret (.list ((a9 0 p).map dC)) ?_ (.mk rfl rfl)
  rw [List.length_zipIdx,List.take_length]
  rfl
theorem tq {a b:Str} (ha:PyData.strOk a=true) (hb:PyData.strOk b=true) {c:Bool} (hc:(a == b)=c):qY (.str a) (.str b)=some (.bool c):=by
 unfold qY
 simp [SeqAt.shaped,PyData.canLay0,PyData.depth,PyData.eqv,ha,hb,hc]
theorem mU (c:Int×Int):b9 [dC c,.str "b"]=some (dC (c.1 + 1,c.2)):=by
 rw [zt]
 exact br (l7 true (cB (b:=true) (aw rfl rfl (tq (by decide +kernel) (by decide +kernel) (by decide +kernel)))) (fun _=>n6 (dC (c.1 + 1,c.2)) rfl (.mk rfl rfl)) fun z=>nomatch z)
theorem mV (c:Int×Int):b9 [dC c,.str "g"]=some (dC (c.1,c.2 + 1)):=by
 rw [zt]
 exact br (kL (cB (b:=false) (aw rfl rfl (tq (by decide +kernel) (by decide +kernel) (by decide +kernel)))) (ret (dC (c.1,c.2 + 1)) rfl (.mk rfl rfl)))
theorem vk {p:List (List Int)} (hl:p.length<=24) (fG:∀ r∈p,r.length<=25) (c:Int×Int):∃ kds,eC [bj p,dC c]=some (.dict kds) /\ Dt kds ((a9 0 p).foldl cC (jn c)):=by
 have mz:=pJ p 0 fG
 have main:fT (eC [bj p,dC c]) fun d=>∃ kds,d=.dict kds /\ Dt kds ((a9 0 p).foldl cC (jn c)):=by
  rw [vb]
  refine aX [some (bj p),some (dC c),some (.dict [(dC c,.int 1)]),none,none,none] rfl ?_
  refine i5 dC (a9 0 p) (fun i δ=>∃ kds a b e,δ=[some (bj p),some (dC c),some (.dict kds),a,b,e] /\ Dt kds (((a9 0 p).take i).foldl cC (jn c)) /\ kds.length<=1 + 2 * i) ?_ ⟨_,_,_,_,rfl,?_,by simp⟩ ?_ ?_
  ·have ec:aU (cm fj 1 (aa (af 0) ah)) [some (bj p),some (dC c),some (.dict [(dC c,.int 1)]),none,none,none]=some (.list ((a9 0 p).map dC)):=bS (dE (cons_of rfl rfl) rfl (xV hl fG))
   unfold aY
   rw [ec]
   rfl
  ·refine ⟨rfl,fun b g=>?_⟩
   have:fK [] [.inl c.1,.inl c.2] (.int 1)=[(dC c,.int 1)]:=rfl
   rw [<- this]
   exact (Dt.put (kds:=[]) (F:=fun _ _=>0) ⟨rfl,fun b g=>rfl⟩ c.1 c.2 1) b g
  ·rintro i k δ hi ⟨kds,a,b,e,rfl,hd,hlen⟩
   have FE:=(List.getElem?_eq_some_iff.mp hi).1
   obtain ⟨F,hF⟩:∃ F,F=((a9 0 p).take i).foldl cC (jn c):=⟨_,rfl⟩
   rw [<- hF] at hd
   have DF:((a9 0 p).take (i + 1)).foldl cC (jn c)=cC F k:=by
    rw [List.take_add_one,hi,List.foldl_append,<- hF]; rfl
   obtain ⟨k1,wa⟩:∃ k1,k1=fK kds [.inl (k.1 + 1),.inl k.2] (.int (F (k.1 + 1) k.2 + F k.1 k.2)):=⟨_,rfl⟩
   have w5:=hd.put (k.1 + 1) k.2 (F (k.1 + 1) k.2 + F k.1 k.2)
   rw [<- wa] at w5
   have hd2:=w5.put k.1 (k.2 + 1) (F k.1 (k.2 + 1) + F k.1 k.2)
   have l1:k1.length<=kds.length + 1:=by rw [wa]; exact j4 _ _ _
   have l2:=j4 k1 [.inl k.1,.inl (k.2 + 1)] (.int (F k.1 (k.2 + 1) + F k.1 k.2))
   refine ⟨_,[some (bj p),some (dC c),some (.dict (fK k1 [.inl k.1,.inl (k.2 + 1)] (.int (F k.1 (k.2 + 1) + F k.1 k.2)))),some (dC k),some (.int (F k.1 k.2)),some (dC (k.1,k.2 + 1))],rfl,?_,_,_,_,_,rfl,?_,by omega⟩
   ·refine b8 [some (bj p),some (dC c),some (.dict kds),some (dC k),some (.int (F k.1 k.2)),e] (be ((jJ rfl rfl rfl).trans (congrArg some (hd k.1 k.2)))) ?_
    unfold fS
    have hit:aY (aM (aa (aC b9 2 (aa (af 3) (aa (gC (.str "b")) ah))) (aa (aC b9 2 (aa (af 3) (aa (gC (.str "g")) ah))) ah))) [some (bj p),some (dC c),some (.dict kds),some (dC k),some (.int (F k.1 k.2)),e]=some [dC (k.1 + 1,k.2),dC (k.1,k.2 + 1)]:=by
     have e1:aC b9 2 (aa (af 3) (aa (gC (.str "b")) ah)) [some (bj p),some (dC c),some (.dict kds),some (dC k),some (.int (F k.1 k.2)),e]=some (dC (k.1 + 1,k.2)):=call_of (cons_of rfl (cons_of rfl rfl)) rfl (mU k)
     have e2:aC b9 2 (aa (af 3) (aa (gC (.str "g")) ah)) [some (bj p),some (dC c),some (.dict kds),some (dC k),some (.int (F k.1 k.2)),e]=some (dC (k.1,k.2 + 1)):=call_of (cons_of rfl (cons_of rfl rfl)) rfl (mV k)
     unfold aY aM
     rw [cons_of e1 (cons_of e2 rfl)]
     rfl
    rw [hit,Option.bind_some]
    refine Nc [some (bj p),some (dC c),some (.dict kds),some (dC k),some (.int (F k.1 k.2)),some (dC (k.1 + 1,k.2))] [some (bj p),some (dC c),some (.dict k1),some (dC k),some (.int (F k.1 k.2)),some (dC (k.1 + 1,k.2))] [some (bj p),some (dC c),some (.dict k1),some (dC k),some (.int (F k.1 k.2)),some (dC (k.1,k.2 + 1))] _ rfl ?_ rfl ?_
    ·refine (n9 (c:=(k.1 + 1,k.2)) rfl rfl (aw ((jJ (c:=(k.1 + 1,k.2)) rfl rfl rfl).trans (congrArg some (hd (k.1 + 1) k.2))) rfl rfl) (by omega)).trans ?_
     rw [wa]; rfl
    ·have h5:(bD k1 [.inl k.1,.inl (k.2 + 1)]).getD (.int 0)=.int (F k.1 (k.2 + 1)):=by
      have:=w5 k.1 (k.2 + 1)
      rw [this]
      show PyData.int (if k.1=k.1 + 1 /\ k.2 + 1=k.2 then _ else _)=_
      rw [if_neg (by omega)]
     exact n9 (c:=(k.1,k.2 + 1)) rfl rfl (aw ((jJ (c:=(k.1,k.2 + 1)) rfl rfl rfl).trans (congrArg some h5)) rfl rfl) (by omega)
   ·rw [DF]
    refine ⟨hd2.fn,fun x y=>?_⟩
    rw [hd2 x y]
    congr 1
    show (if x=k.1 /\ y=k.2 + 1 then _ else if x=k.1 + 1 /\ y=k.2 then _ else F x y)=F x y + _ + _
    by_cases c1:x=k.1 /\ y=k.2 + 1
    ·rw [if_pos c1,if_pos c1,if_neg (by omega),c1.1,c1.2]; omega
    ·rw [if_neg c1,if_neg c1]
     by_cases c2:x=k.1 + 1 /\ y=k.2
     ·rw [if_pos c2,if_pos c2,c2.1,c2.2]; omega
     ·rw [if_neg c2,if_neg c2]; omega
  ·rintro δ' ⟨kds,a,b,e,rfl,hd,_⟩
   rw [List.take_length] at hd
   exact ret (.dict kds) rfl (.mk rfl ⟨kds,rfl,hd⟩)
 obtain ⟨_,e,kds,rfl,hd⟩:=main
 exact ⟨kds,e,hd⟩
def A0:Int->Int:=fun b=>if b=0 then 1 else 0
theorem DG {p:List (List Int)} (h:Pl p) {x y:Int} {k:Nat} (e:x + y=(k:Int)):(a9 0 p).foldl cC (jn (0,0)) x y=WW A0 p k x:=by
 refine (pK p 0 A0 (jn (0,0)) (zx h).1 ?_ ?_ x y).2 k (by push_cast; omega)
 ·intro x y q
  unfold jn A0
  by_cases c:x=0
  ·rw [if_pos ⟨c,by push_cast at q; show y=0; omega⟩,if_pos c]
  ·rw [if_neg (fun z=>c z.1),if_neg c]
 ·intro x y q
  unfold jn
  rw [if_neg]
  rintro ⟨z1,z2⟩
  have Xr:x=0:=z1
  have Xs:y=0:=z2
  push_cast at q
  omega
theorem DH {α β:Type} (enc:α->D) (kM:β->D) (h:α->β) (P:α->Bool) {f:D->Option (Option D)}:∀ l:List α,(∀ a∈l,f (enc a)=some (if P a=true then some (kM (h a)) else none))->pd f (l.map enc)=some (((l.filter P).map h).map kM)
 | [],_=>rfl
 | a :: l,q=>by
   have ih:=DH enc kM h P l fun b hb=>q b (List.mem_cons_of_mem _ hb)
   rw [List.map_cons,pd,q a List.mem_cons_self,Option.bind_some,ih,Option.bind_some,List.filter_cons]
   cases P a <;> rfl
theorem vm {α β:Type} (enc:α->D) (kM:β->D) (h:α->β) (P:α->Bool) {gi:DS->Option (List D)} {ix:List Nat} {gc:DS->Option Bool} {ge:DS->Option D} {δ:DS} (l:List α) (hi:gi δ=some (l.map enc)) (hl:l.length<=100000)
  (hc:∀ a∈l,gc (some (enc a) :: c5 ix δ)=some (P a)) (he:∀ a∈l,P a=true->ge (some (enc a) :: c5 ix δ)=some (kM (h a))):cz gi 1 ix (aE 0) gc ge δ=some (((l.filter P).map h).map kM):=by
 unfold cz
 rw [hi,Option.bind_some,if_pos (by rw [List.length_map]; exact hl)]
 refine DH enc kM h P l fun a ha=>?_
 show (Option.bind (some (some (enc a) :: c5 ix δ)) _)=_
 rw [Option.bind_some,hc a ha,Option.bind_some]
 cases q:P a with
 | true=>rw [if_pos rfl,if_pos rfl,he a ha q]; rfl
 | false=>rfl
theorem zy {f f':D->D->Option D} {a b c:DS->Option D} {δ:DS} {x y w:D} {u v:Bool} (h1:a δ=some x) (h2:b δ=some y) (h3:f x y=some (.bool u)) (h4:c δ=some w) (h5:f' y w=some (.bool v)):iW f f' a b c δ=some (.bool (u && v)):=by
 unfold iW
 rw [h1,h2]
 simp only [Option.bind_some,h3]
 cases u with
 | true=>simp only [h4,Option.bind_some,h5,Bool.true_and]
 | false=>rfl
theorem DI {r:List Int} (h:r.length < 32):gN [dR r]=some ((led r).map .int):=by
 rw [Du]
 exact br (ret (.list ((led r).map .int)) (bS (xR (a:=aU (wM mF (aa (af 0) ah))) (b:=af 0) (r:=r) rfl (.inr rfl) h)) (.mk rfl rfl))
def jK (p:List (List Int)) (c:Int×Int):Bool:=(decide (0<=c.1 + c.2) && decide (c.1 + c.2 < (p.length:Int))) && decide (c.1∈p.getD (c.1 + c.2).toNat [])
theorem gF (p:List (List Int)) (c:Int×Int):cK [bj p,dC c]=some (.bool (jK p c)):=by
 rw [A1]
 refine br ?_
 refine aX [some (bj p),some (dC c),some (.int (c.1 + c.2))] rfl ?_
 refine ret (.bool (jK p c)) ?_ (.mk rfl rfl)
 refine Ke (x:=decide (0<=c.1 + c.2) && decide (c.1 + c.2 < (p.length:Int))) ?_ fun h=>?_
 ·have e2:v9 (.int (c.1 + c.2)) (.int (((p.map dR).length:Nat):Int))=some (.bool (decide (c.1 + c.2 < (p.length:Int)))):=by
   rw [List.length_map]; rfl
  exact zy rfl rfl rfl rfl e2
 ·rw [Bool.and_eq_true,decide_eq_true_eq,decide_eq_true_eq] at h
  exact aw rfl (aw rfl rfl (DB h.1 h.2)) DA
theorem iM:∀ (p:List (List Int)) (n:Nat),(∀ r∈p,r.length<=50)->(a9 n p).length<=50 * p.length
 | [],_,_=>by simp [a9]
 | r :: p,n,h=>by
   have h1:=iM p (n + 1) fun s hs=>h s (List.mem_cons_of_mem _ hs)
   have h2:=h r List.mem_cons_self
   rw [a9,List.length_append,List.length_cons,gX,List.length_map]
   omega
theorem DJ (p:List (List Int)):nu (p.map dR)=(p.zipIdx 1).map fun x=>.tuple [.int (x.2:Nat),dR x.1]:=by
 unfold nu
 rw [List.zipIdx_map,List.map_map]
 rfl
theorem zz (x:Int):∀ l:List Int,(ins x l).length<=l.length + 1
 | []=>by simp [ins]
 | y :: l=>by
   have:=zz x l
   rw [ins]
   split
   ·simp
   ·split
    ·simp
    ·simp only [List.length_cons]; omega
theorem DL:∀ l:List Int,(ss l).length<=l.length
 | []=>by simp [ss]
 | x :: l=>by
   have h1:=DL l
   have h2:=zz x (ss l)
   rw [ss,List.length_cons]; omega
theorem i9 {r:List Int}:(led r).length<=2 * r.length:=by
 have h:((led r):List Int).length<=(r ++ r.map (· + 1)).length:=DL _
 rw [List.length_append,List.length_map] at h
 omega
theorem A4 {p:List (List Int)} (hl:p.length<=24) (fG:∀ r∈p,r.length<=25):fi [bj p]=some (((0,0) :: a9 1 (p.map led)).map dC):=by
 rw [A2]
 refine br ?_
 refine aX [some (bj p),some (.list [dC (0,0)]),none,none] rfl ?_
 refine i5 (fun x:List Int×Nat=>PyData.tuple [.int (x.2:Nat),dR x.1]) (p.zipIdx 1) (fun i δ=>∃ a b,δ=[some (bj p),some (.list (((0,0) :: a9 1 ((p.take i).map led)).map dC)),a,b]) ?_ ⟨none,none,rfl⟩ ?_ ?_
 ·show some (nu (p.map dR))=_
  rw [DJ]
 ·rintro i ⟨r,n⟩ δ hi ⟨a,b,rfl⟩
  rw [List.getElem?_zipIdx] at hi
  cases er:p[i]? with
  | none=>rw [er] at hi; cases hi
  | some r'=>
    rw [er] at hi
    simp only [Option.map_some,Option.some.injEq,Prod.mk.injEq] at hi
    obtain ⟨rfl,rfl⟩:=hi
    have FE:=(List.getElem?_eq_some_iff.mp er).1
    have hr:=fG r' (List.mem_of_getElem? er)
    have ht:p.take (i + 1)=p.take i ++ [r']:=by
     rw [List.take_add_one,er]; rfl
    have Gj:(p.take i).length=i:=by rw [List.length_take]; omega
    have Vy:(led r').length<=50:=by have:=i9 (r:=r'); omega
    have mz:(a9 1 ((p.take i).map led)).length<=1200:=by
     have:=iM ((p.take i).map led) 1 (fun s hs=>by
      obtain ⟨t,ht,rfl⟩:=List.mem_map.mp hs
      have:=i9 (r:=t)
      have:=fG t (List.mem_of_mem_take ht)
      omega)
     rw [List.length_map,Gj] at this
     omega
    refine ⟨_,[some (bj p),some (.list (((0,0) :: a9 1 ((p.take (i + 1)).map led)).map dC)),some (.int ((1 + i:Nat):Int)),some (dR r')],rfl,?_,_,_,rfl⟩
    have hc:cO (aY (aU (cm gN 1 (aa (af 3) ah)))) [2] (aM (aa (af 0) (aa (g2 e9 (af 1) (af 0)) ah))) [some (bj p),some (.list (((0,0) :: a9 1 ((p.take i).map led)).map dC)),some (.int ((1 + i:Nat):Int)),some (dR r')]=some (((led r').map fun b=>(b,((1 + i:Nat):Int) - b)).map dC):=by
     refine g9 PyData.int dC (fun b=>(b,((1 + i:Nat):Int) - b)) (led r') ?_ (by omega) fun x _=>rfl
     have ec:aU (cm gN 1 (aa (af 3) ah)) [some (bj p),some (.list (((0,0) :: a9 1 ((p.take i).map led)).map dC)),some (.int ((1 + i:Nat):Int)),some (dR r')]=some (.list ((led r').map .int)):=bS (dE (cons_of rfl rfl) rfl (DI (by omega)))
     unfold aY
     rw [ec]
     rfl
    refine (tm rfl hc (by simp only [List.length_map,List.length_cons]; omega)).trans ?_
    have key:a9 1 ((p.take (i + 1)).map led)=a9 1 ((p.take i).map led) ++ gX (1 + i) (led r'):=by
     rw [ht,List.map_append,show List.map led [r']=[led r'] from rfl,gE,List.length_map,Gj]
    simp only [key,List.map_cons,List.map_append,List.cons_append]
    rfl
 ·rintro δ' ⟨a,b,rfl⟩
  refine ret (.list (((0,0) :: a9 1 (p.map led)).map dC)) ?_ (.mk rfl rfl)
  rw [List.length_zipIdx,List.take_length]
  rfl
def aF (p:List (List Int)):List (Int×Int):=((0,0) :: a9 1 (p.map led)).filter fun c=> !jK p c
theorem DM {p:List (List Int)} (hl:p.length<=24) (fG:∀ r∈p,r.length<=25):jE [bj p]=some ((aF p).map dC):=by
 rw [Ka]
 have mz:(a9 1 (p.map led)).length<=1200:=by
  have:=iM (p.map led) 1 (fun s hs=>by
   obtain ⟨t,ht,rfl⟩:=List.mem_map.mp hs
   have:=i9 (r:=t)
   have:=fG t ht
   omega)
  rw [List.length_map] at this
  omega
 have hc:cz (aY (aU (cm fi 1 (aa (af 0) ah)))) 1 [0] (aE 0) (sd (nM (aC cK 2 (aa (af 1) (aa (af 0) ah))))) (af 0) [some (bj p)]=some (((((0,0) :: a9 1 (p.map led)).filter fun c=> !jK p c).map id).map dC):=by
  refine vm dC dC id (fun c=> !jK p c) ((0,0) :: a9 1 (p.map led)) ?_ (by simp only [List.length_cons]; omega) (fun c _=>?_) fun c _ _=>rfl
  ·have ec:aU (cm fi 1 (aa (af 0) ah)) [some (bj p)]=some (.list (((0,0) :: a9 1 (p.map led)).map dC)):=bS (dE (cons_of rfl rfl) rfl (A4 hl fG))
   unfold aY
   rw [ec]
   rfl
  ·exact l8 (sQ (call_of (cons_of rfl (cons_of rfl rfl)) rfl (gF p c)))
 rw [List.map_id] at hc
 exact br (ret (.list ((aF p).map dC)) (bS hc) (.mk rfl rfl))
def pL (p:List (List Int)) (c:Int×Int):Bool:=(decide (0<=c.1 + c.2) && decide (c.1 + c.2 < (p.length:Int))) && decide (c.1∈p.getD (c.1 + c.2).toNat [])
theorem Gk (p:List (List Int)) (n:Nat) (b:Int):pL p (b,(n:Int) - b)=decide (b∈p.getD n []):=by
 unfold pL
 simp only
 rw [show b + ((n:Int) - b)=(n:Int) by omega,Int.toNat_natCast,decide_eq_true (show (0:Int)<=(n:Int) by omega),Bool.true_and]
 rcases Nat.lt_or_ge n p.length with q | q
 ·rw [decide_eq_true (show (n:Int) < (p.length:Int) by omega),Bool.true_and]
 ·rw [decide_eq_false (show ¬ (n:Int) < (p.length:Int) by omega),Bool.false_and,List.getD_eq_getElem?_getD,List.getElem?_eq_none q]
  simp
theorem mW {L:Nat} (h:L<=24): -100000<=((L:Nat):Int) + 1 /\ ((L:Nat):Int) + 1<=100000 /\ ((((L:Nat):Int) + 1) - 1).toNat=L:=⟨by omega,by omega,by omega⟩
theorem Gm {N:Int} {i L:Nat} (h:N=1 + (i:Int)) (hi:i < L):0<=N /\ N.toNat=i + 1 /\ 0<=N - 1 /\ N - 1 < (L:Int) /\ (N - 1).toNat=i /\ (¬ N < (L:Int)->L<=i + 1):=⟨by omega,by omega,by omega,by omega,by omega,fun _=>by omega⟩
theorem Gn {a b i L:Nat} (h1:a<=50 * i) (h2:b<=a) (hi:i < L) (hL:L<=24):b<=1200:=by omega
theorem tu {l r f:Nat} (h:l<=2 * r) (hr:r<=25):l<=50 /\ r < 32 /\ (f<=l->∀ a,a<=1200->a + f<=100000):=⟨by omega,by omega,fun _ _ _=>by omega⟩
theorem xW {p:List (List Int)} (hl:p.length<=24) (fG:∀ r∈p,r.length<=25):fm [bj p]=some (((a9 1 (p.map led)).filter fun c=> !pL p c).map dC):=by
 rw [xN]
 refine br ?_
 refine aX [some (bj p),some (.list []),none,none,none] rfl ?_
 refine l6 1 p.length (fun i δ=>∃ a b c,δ=[some (bj p),some (.list (((a9 1 ((p.take i).map led)).filter fun c=> !pL p c).map dC)),a,b,c]) ?_ ⟨none,none,none,rfl⟩ ?_ ?_
 ·have e:aa (gC (.int (1))) (aa (g2 ba (eM dj (aa (af 0) ah)) (gC (.int (1)))) ah) [some (bj p),some (.list []),none,none,none]=some [.int 1,.int (((p.length:Nat):Int) + 1)]:=by
   show some [PyData.int 1,PyData.int ((((p.map dR).length:Nat):Int) + 1)]=_
   rw [List.length_map]
  refine (AZ e (by decide) (by decide) (mW hl).1 (mW hl).2.1).trans ?_
  rw [(mW hl).2.2]
 ·rintro i δ hi ⟨a,b,c,rfl⟩
  obtain ⟨r,er⟩:∃ r,p[i]?=some r:=⟨_,List.getElem?_eq_getElem hi⟩
  have hr:=fG r (List.mem_of_getElem? er)
  have ht:p.take (i + 1)=p.take i ++ [r]:=by rw [List.take_add_one,er]; rfl
  have Gj:(p.take i).length=i:=by rw [List.length_take]; exact Nat.min_eq_left (Nat.le_of_lt hi)
  obtain ⟨acc,qq⟩:∃ acc,acc=((a9 1 ((p.take i).map led)).filter fun c=> !pL p c).map dC:=⟨_,rfl⟩
  rw [<- qq]
  have Nd:acc.length<=1200:=by
   have h1:=iM ((p.take i).map led) 1 (fun s hs=>by
    obtain ⟨t,ht,rfl⟩:=List.mem_map.mp hs
    exact (tu (f:=0) (i9 (r:=t)) (fG t (List.mem_of_mem_take ht))).1)
   rw [List.length_map,Gj] at h1
   have h2:=List.length_filter_le (fun c=> !pL p c) (a9 1 ((p.take i).map led))
   rw [qq,List.length_map]
   exact Gn h1 h2 hi hl
  obtain ⟨Vy,Xu,_⟩:=tu (f:=0) (i9 (r:=r)) hr
  obtain ⟨N,hN⟩:∃ N:Int,N=1 + (i:Int):=⟨_,rfl⟩
  obtain ⟨m1,m2,m3,m4,m5,m6⟩:=Gm hN hi
  rw [<- hN]
  obtain ⟨on,Qe⟩:∃ on,on=p.getD (i + 1) []:=⟨_,rfl⟩
  have st:iy (gB (g2 v9 (af 2) (eM dj (aa (af 0) ah)))) (aR 3 (g2 c8 (af 0) (af 2))) bW [some (bj p),some (.list acc),some (.int N),some (.tuple []),c]=some (.nx [some (bj p),some (.list acc),some (.int N),some (dR on),c]):=by
   have hc:gB (g2 v9 (af 2) (eM dj (aa (af 0) ah))) [some (bj p),some (.list acc),some (.int N),some (.tuple []),c]=some (decide (N < (p.length:Int))):=by
    refine cB ?_
    show some (PyData.bool (decide (N < (((p.map dR).length:Nat):Int))))=_
    rw [List.length_map]
   by_cases q:N < (p.length:Int)
   ·refine hZ true (hc.trans (congrArg some (decide_eq_true q))) (fun _=>?_) fun z=>nomatch z
    refine (be (aw rfl rfl (DB m1 q))).trans ?_
    rw [m2,<- Qe]
    rfl
   ·refine hZ false (hc.trans (congrArg some (decide_eq_false q))) (fun z=>nomatch z) fun _=>?_
    have:on=[]:=by rw [Qe,List.getD_eq_getElem?_getD,List.getElem?_eq_none (m6 q)]; rfl
    rw [this]; rfl
  have ix:g2 c8 (af 0) (g2 e9 (af 2) (gC (.int (1)))) [some (bj p),some (.list acc),some (.int N),some (dR on),c]=some (dR r):=by
   refine (aw rfl rfl (DB (p:=p) (i:=N - 1) m3 m4)).trans ?_
   rw [m5,List.getD_eq_getElem?_getD,er]
   rfl
  have Xv:=xR (a:=aU (wM mF (aa (g2 c8 (af 0) (g2 e9 (af 2) (gC (.int (1))))) ah))) (b:=g2 c8 (af 0) (g2 e9 (af 2) (gC (.int (1))))) (δ:=[some (bj p),some (.list acc),some (.int N),some (dR on),c]) (r:=r) (by
   unfold aU wM
   rw [cons_of ix rfl]
   rfl) (.inr ix) Xu
  refine ⟨_,[some (bj p),some (.list (((a9 1 ((p.take (i + 1)).map led)).filter fun c=> !pL p c).map dC)),some (.int N),some (dR on),some (.list ((led r).map .int))],rfl,?_,_,_,_,rfl⟩
  refine b8 [some (bj p),some (.list acc),some (.int N),some (.tuple []),c] rfl ?_
  refine b8 _ st ?_
  refine b8 [some (bj p),some (.list acc),some (.int N),some (dR on),some (.list ((led r).map .int))] (be (bS Xv)) ?_
  have Xw:cz (aY (af 4)) 1 [2,3] (aE 0) (gB (g2 kD (af 0) (af 2))) (aM (aa (af 0) (aa (g2 e9 (af 1) (af 0)) ah))) [some (bj p),some (.list acc),some (.int N),some (dR on),some (.list ((led r).map .int))]=some ((((led r).filter fun b=> !decide (b∈on)).map fun b=>(b,N - b)).map dC):=by
   refine vm PyData.int dC (fun b=>(b,N - b)) (fun b=> !decide (b∈on)) (led r) rfl (Nat.le_trans Vy (by decide)) (fun b _=>?_) fun b _ _=>rfl
   refine cB (aw rfl rfl ?_)
   unfold kD
   rw [DA]
   rfl
  refine (tm rfl Xw (by simp only [List.length_map]; exact (tu (i9 (r:=r)) hr).2.2 (List.length_filter_le (fun b=> !decide (b∈on)) (led r)) _ Nd)).trans ?_
  have key:((a9 1 ((p.take (i + 1)).map led)).filter fun c=> !pL p c).map dC=acc ++ (((led r).filter fun b=> !decide (b∈on)).map fun b=>(b,N - b)).map dC:=by
   rw [ht,List.map_append,show List.map led [r]=[led r] from rfl,gE,List.length_map,Gj,List.filter_append,List.map_append,<- qq]
   congr 2
   unfold gX
   rw [List.filter_map]
   have ef:((fun c:Int×Int=> !pL p c) ∘ fun b:Int=>(b,((1 + i:Nat):Int) - b))=fun b=> !decide (b∈on):=by
    funext b
    show (!pL p (b,((1 + i:Nat):Int) - b))=_
    rw [Gk,Qe,Nat.add_comm 1 i]
   rw [ef]
   congr 1
   funext b
   rw [hN]
   push_cast
   rfl
  rw [key]
  rfl
 ·rintro δ' ⟨a,b,c,rfl⟩
  refine ret (.list (((a9 1 (p.map led)).filter fun c=> !pL p c).map dC)) ?_ (.mk rfl rfl)
  rw [List.take_length]
  rfl
theorem og {a b:DS->Option D} {δ:DS} {x y:D} (h1:a δ=some x) (h2:b δ=some y):aM (aa a (aa b ah)) δ=some (.tuple [x,y]):=by
 unfold aM; rw [cons_of h1 (cons_of h2 rfl)]; rfl
structure Sz (m:Nat) (q:Ad):Prop where
 low:P8 q
 top:bt q.1<=m
 bot:bt q.2<=m
theorem Sz.ne {m:Nat} {q:Ad} (h:Sz m q):q.2≠0:=by have:=h.low.1; omega
theorem Sz.up {m n:Nat} {q:Ad} (h:Sz m q) (hn:m<=n):Sz n q:=⟨h.low,cc h.top hn,cc h.bot hn⟩
theorem zA {m:Nat} {t b:Int} (hb:b≠0) (h1:bt t<=m) (h2:bt b<=m):Sz m (cj t b):=⟨J2 hb,iI ((cU hb).xA hb) h1,iI ((cU hb).bot_le hb) h2⟩
theorem DN (a b:Int) (hb:bt b<=4000):bA [.int a,.int b]=some (.int (Int.gcd a b:Nat)):=by
 rw [kO]
 refine br ?_
 refine aX [some (.int (a.natAbs:Nat)),some (.int b),none,none] (by simp only [aR,eM,aa,af,List.getElem?_cons_zero,Option.join_some,ah,Option.bind_some,oS,List.set_cons_zero]; rw [zq]) ?_
 refine aX [some (.int (a.natAbs:Nat)),some (.int (b.natAbs:Nat)),none,none] (by simp only [aR,eM,aa,af,List.getElem?_cons_succ,List.getElem?_cons_zero,Option.join_some,ah,Option.bind_some,oS,List.set_cons_succ,List.set_cons_zero]; rw [zq]) ?_
 refine rJ (fun m δ=>∃ (x:Nat) (r p:Option D),δ=[some (.int (x:Nat)),some (.int (m:Nat)),r,p] /\ bt (m:Int)<=4000 /\ Nat.gcd x m=Int.gcd a b) (fun δ=>∃ (x:Nat) (r p:Option D),δ=[some (.int (x:Nat)),some (.int 0),r,p] /\ x=Int.gcd a b) b.natAbs ?_ ?_ ?_
 ·exact ⟨_,none,none,rfl,iI (by simp) hb,rfl⟩
 ·rintro m δ ⟨x,r,p,rfl,Xx,hg⟩
  by_cases hm:m=0
  ·subst hm
   exact .inl ⟨by simp only [gB,g2,af,List.getElem?_cons_succ,List.getElem?_cons_zero,Option.join_some,gC,Option.bind_some,jD]; rfl,x,r,p,rfl,by simpa using hg⟩
  ·have g5:x % m < m:=Nat.mod_lt _ (by omega)
   have e:((x:Int) % (m:Int))=((x % m:Nat):Int):=by omega
   have FH:bt ((x % m:Nat):Int)<=4000:=iI (by simp; omega) Xx
   refine .inr ⟨by simp only [gB,g2,af,List.getElem?_cons_succ,List.getElem?_cons_zero,Option.join_some,gC,Option.bind_some,jD]; simp; omega,[some (.int m),some (.int ((x % m:Nat):Int)),some (.int ((x % m:Nat):Int)),p],x % m,?_,g5,m,_,_,rfl,FH,?_⟩
   ·simp only [aA,aR,g2,af,List.getElem?_cons_zero,Option.join_some,List.getElem?_cons_succ,Option.bind_some,List.set_cons_succ,List.set_cons_zero,iy,gB,g1,gC,aC,aa,ah,bW]
    rw [fW (by omega),e]
    simp only [Option.bind_some,List.getElem?_cons_succ,List.getElem?_cons_zero,Option.join_some,List.set_cons_zero,List.set_cons_succ,yV,B9,List.length_cons,List.length_nil,Nat.reduceAdd,if_true,decide_eq_true_eq]
    have Xy:Builtin.Int.intBits ((x % m:Nat):Int)<=4000:=FH
    rw [if_neg (by omega)]
   ·rw [<- hg,Nat.gcd_comm x m,Nat.gcd_rec m x,Nat.gcd_comm]
 ·rintro δ' ⟨x,r,p,rfl,h2⟩
  exact ret _ (by simp only [af,List.getElem?_cons_zero,Option.join_some]; rw [h2]) (.mk rfl rfl)
theorem oh (t b:Int) (Mv:b≠0) (hb:bt b<=4000):ip [.int t,.int b]=some (dF (cj t b)):=by
 rw [J7]
 refine br ?_
 have hg:=DN t b hb
 have N7:dv t b≠0:=M1 Mv
 have Kf:bt (dv t b)<=9000:=by
  refine cc (iI ?_ hb) (by decide)
  have:(Int.gcd t b) ∣ b.natAbs:=Nat.gcd_dvd_right _ _
  have:=Nat.le_of_dvd (by omega) this
  unfold dv; split <;> omega
 refine kL (by simp only [gB,g2,af,List.getElem?_cons_succ,List.getElem?_cons_zero,Option.join_some,gC,Option.bind_some,mO]; rw [decide_eq_false Mv]) ?_
 refine aX [some (.int t),some (.int b),some (.int (Int.gcd t b:Nat))] (by simp only [aR,aC,aa,af,List.getElem?_cons_zero,Option.join_some,List.getElem?_cons_succ,ah,Option.bind_some,List.length_cons,List.length_nil,Nat.reduceAdd,if_true,List.set_cons_succ,List.set_cons_zero]; rw [hg]; rfl) ?_
 refine aX [some (.int t),some (.int b),some (.int (dv t b))] ?_ ?_
 ·simp only [iy,gB,g2,af,List.getElem?_cons_succ,List.getElem?_cons_zero,Option.join_some,gC,Option.bind_some,B9,aR,g1,Af,List.set_cons_succ,List.set_cons_zero,bW,decide_eq_true_eq]
  unfold dv
  split <;> rfl
 ·refine ret (dF (cj t b)) ?_ (.mk rfl rfl)
  simp only [aM,aa,g2,af,List.getElem?_cons_zero,Option.join_some,List.getElem?_cons_succ,Option.bind_some,ah]
  rw [Dp N7 Kf,Dp N7 Kf]
  rfl
theorem DO (a b:Ad) (ha:Sz 4000 a) (hb:Sz 4000 b):ma [dF a,dF b]=some (dF (u6 a b)):=by
 rw [Gb]
 refine br ?_
 have f1:=oh a.1 b.2 hb.ne hb.bot
 have f2:=oh b.1 a.2 ha.ne ha.bot
 have o1:=cU (t:=a.1) hb.ne
 have o2:=cU (t:=b.1) ha.ne
 have hq:=(Dm ha.low.2 hb.low.2 o1 o2).qm (Int.mul_ne_zero ha.ne hb.ne)
 have c1:=iI (o1.xA hb.ne) ha.top
 have c2:=iI (o1.bot_le hb.ne) hb.bot
 have c3:=iI (o2.xA ha.ne) hb.top
 have c4:=iI (o2.bot_le ha.ne) ha.bot
 refine aX [some (dF a),some (dF b),some (dF (cj a.1 b.2)),none] (by simp only [aR,aC,aa,g2,af,List.getElem?_cons_zero,Option.join_some,gC,Option.bind_some,kN,List.getElem?_cons_succ,i6,ah,List.length_cons,List.length_nil,Nat.reduceAdd,if_true,List.set_cons_succ,List.set_cons_zero]; rw [f1]; rfl) ?_
 refine aX [some (dF a),some (dF b),some (dF (cj a.1 b.2)),some (dF (cj b.1 a.2))] (by simp only [aR,aC,aa,g2,af,List.getElem?_cons_succ,List.getElem?_cons_zero,Option.join_some,gC,Option.bind_some,kN,i6,ah,List.length_cons,List.length_nil,Nat.reduceAdd,if_true,List.set_cons_succ,List.set_cons_zero]; rw [f2]; rfl) ?_
 refine ret (dF (u6 a b)) ?_ (.mk rfl rfl)
 unfold u6
 rw [<- hq]
 simp only [aM,aa,g2,af,List.getElem?_cons_succ,List.getElem?_cons_zero,Option.join_some,gC,Option.bind_some,kN,i6,ah]
 rw [gM (pC c1 c3),gM (pC c2 c4)]
 rfl
theorem vn (q:Ad) (k:Nat) (h1:bt q.1<=1000) (h2:bt q.2<=1000) (hk:k<=1000):hJ [dF q,.int (k:Nat)]=some (dF (q.1 ^ k,q.2 ^ k)):=by
 rw [Gc]
 refine br ?_
 refine aX [some (dF q),some (.int (k:Nat)),some (.int 1),none,none] rfl (aX [some (dF q),some (.int (k:Nat)),some (.int 1),some (.int 1),none] rfl ?_)
 refine l6 0 k (fun i δ=>∃ z:Option D,δ=[some (dF q),some (.int (k:Nat)),some (.int (q.1 ^ i)),some (.int (q.2 ^ i)),z]) (iJ rfl (by omega)) ⟨none,by rw [Int.pow_zero,Int.pow_zero]⟩ ?_ ?_
 ·rintro i δ hi ⟨z,rfl⟩
  have hm:∀ {u:Int},bt u<=1000->IntMulOk (u ^ i) u:=fun h=>pC (J4 h i) h (by have:1000 * i<=1000 * 1000:=Nat.mul_le_mul_left _ (by omega); omega)
  refine ⟨_,[some (dF q),some (.int (k:Nat)),some (.int (q.1 ^ (i + 1))),some (.int (q.2 ^ (i + 1))),some (.int (0 + (i:Int)))],rfl,?_,_,rfl⟩
  exact b8 [some (dF q),some (.int (k:Nat)),some (.int (q.1 ^ (i + 1))),some (.int (q.2 ^ i)),some (.int (0 + (i:Int)))] (be (aw rfl (aw rfl rfl (kN q)) ((gM (hm h1)).trans (by rw [Int.pow_succ])))) (be (aw rfl (aw rfl rfl (i6 q)) ((gM (hm h2)).trans (by rw [Int.pow_succ]))))
 ·rintro δ' ⟨z,rfl⟩
  exact ret (dF (q.1 ^ k,q.2 ^ k)) rfl (.mk rfl rfl)
theorem DP {gi:DS->Option (List D)} {t:D->DS->Option DS} {b:DS->Option Res} {δ:DS} {ds:List D} {r:Option Res} (h1:gi δ=some ds) (h2:ke t b ds δ=r):fS gi t b δ=r:=by unfold fS; rw [h1]; exact h2
theorem Nf {A:Int->Int} {r:List Int} (h:∀ x,0<=A x) (b:Int):0<=lv A r b:=by
 have h1:=h (b - 1)
 have h2:=h b
 unfold lv
 split <;> split <;> omega
theorem DQ {p:List (List Int)} {A:Int->Int} (h:∀ x,0<=A x):∀ (k:Nat) (b:Int),0<=WW A p k b
 | 0,b=>by rw [WW_0]; exact h b
 | k + 1,b=>by rw [j7]; exact Nf (DQ h k) b
theorem HY (x:Int):0<=A0 x:=by unfold A0; split <;> omega
theorem DR {A:Int->Int} {r:List Int} (h:∀ x,0<=A x) (hr:∀ x∈r,0 < A x) {b:Int} (hb:b∈led r):0 < lv A r b:=by
 have h1:=h (b - 1)
 have h2:=h b
 unfold lv
 rcases hX.mp hb with z | z
 ·have:=hr b z
  rw [if_pos z]; split <;> omega
 ·have:=hr _ z
  rw [if_pos z]; split <;> omega
theorem zB:∀ {q:List (List Int)} {r:List Int},Gd r q->∀ k x,x∈(r :: q).getD (k + 1) []->x∈led ((r :: q).getD k [])
 | [],_,_,k,x,hx=>by simp at hx
 | s :: q,r,hc,0,x,hx=>hc.1.2.2 x (by simpa using hx)
 | s :: q,r,hc,k + 1,x,hx=>by
   have:=zB hc.2 k x (by simpa using hx)
   simpa using this
theorem Kg {p:List (List Int)} (h:Pl p) (k:Nat) (x:Int) (hx:x∈p.getD (k + 1) []):x∈led (p.getD k []):=by
 obtain ⟨q,rfl,hc⟩:=h.ex
 exact zB hc k x hx
theorem xX {p:List (List Int)} (h:Pl p):∀ (k:Nat) (x:Int),x∈p.getD k []->0 < WW A0 p k x
 | 0,x,hx=>by
   obtain ⟨q,rfl,hc⟩:=h.ex
   rw [WW_0]
   have:x=0:=by simpa using hx
   subst this; decide
 | k + 1,x,hx=>by
   rw [j7]
   exact DR (DQ HY k) (xX h k) (Kg h k x hx)
theorem Kh {p:List (List Int)} (h:Pl p) (k:Nat) (x:Int) (hx:x∈led (p.getD k [])):0 < WW A0 p (k + 1) x:=by
 rw [j7]
 exact DR (DQ HY k) (xX h k) hx
theorem zC {A:Int->Int} {p q:List (List Int)}:∀ (k:Nat),(∀ j,j < k->p.getD j []=q.getD j [])->WW A p k=WW A q k
 | 0,_=>by rw [WW_0,WW_0]
 | k + 1,h=>by
   funext b
   rw [j7,j7,h k (by omega),zC k fun j hj=>h j (by omega)]
theorem Dt.get {kds:List (D×D)} {F:WF} (h:Dt kds F) {b g:Int} (hp:F b g≠0):bD kds [.inl b,.inl g]=some (.int (F b g)):=by
 have:=h b g
 cases e:bD kds [.inl b,.inl g] with
 | none=>rw [e] at this; exact absurd (by injection this with z; exact z.symm) hp
 | some d=>rw [e] at this; rw [show d=.int (F b g) from this]
def eT (p:List (List Int)):WF:=(a9 0 p).foldl cC (jn (0,0))
theorem vo {p:List (List Int)} (h:Pl p) {x y:Int} {k:Nat} (e:x + y=(k:Int)):eT p x y=WW A0 p k x:=DG h e
theorem A5 {p:List (List Int)} (h:Pl p) {n:Nat} {bs cs:List Int} (hr:p[n]?=some (bs ++ cs)) {x y:Int} (e:x + y=(n:Int)):(gX n bs).foldl cC ((a9 0 (p.take n)).foldl cC (jn (0,0))) x y=WW A0 p n x:=by
 have hn:=(List.getElem?_eq_some_iff.mp hr).1
 have hl:(p.take n).length=n:=by rw [List.length_take]; omega
 have e1:(gX n bs).foldl cC ((a9 0 (p.take n)).foldl cC (jn (0,0)))=(a9 0 (p.take n ++ [bs])).foldl cC (jn (0,0)):=by
  rw [gE,List.foldl_append,hl,Nat.zero_add]
 rw [e1]
 have nd:=(zx h).1
 have Xz:∀ s∈p.take n ++ [bs],s.Nodup:=by
  intro s hs
  rcases List.mem_append.mp hs with z | z
  ·exact nd s (List.mem_of_mem_take z)
  ·rw [List.mem_singleton.mp z]
   have:=nd _ (List.mem_of_getElem? hr)
   exact (List.nodup_append.mp this).1
 refine ((pK (p.take n ++ [bs]) 0 A0 (jn (0,0)) Xz ?_ ?_ x y).2 n (by push_cast; omega)).trans ?_
 ·intro x y q
  unfold jn A0
  by_cases c:x=0
  ·rw [if_pos ⟨c,by push_cast at q; show y=0; omega⟩,if_pos c]
  ·rw [if_neg (fun z=>c z.1),if_neg c]
 ·intro x y q
  unfold jn
  rw [if_neg]
  rintro ⟨z1,z2⟩
  have Xr:x=0:=z1
  have Xs:y=0:=z2
  push_cast at q
  omega
 ·rw [zC (q:=p) n fun j hj=>?_]
  rw [List.getD_eq_getElem?_getD,List.getD_eq_getElem?_getD,List.getElem?_append_left (by omega),List.getElem?_take_of_lt hj]
theorem DT (p:List (List Int)):fV (p.map dR)=p.zipIdx.map fun x=>.tuple [.int (x.2:Nat),dR x.1]:=by
 unfold fV
 rw [List.zipIdx_map,List.map_map]
 rfl
theorem XA {x y z n j:Nat} (l2:x<=y + 1) (l1:y<=z + 1) (h:z<=n + 2 * j):x<=n + 2 * (j + 1):=by omega
theorem XB {z i j L r:Nat} (h:z<=1 + 50 * i + 2 * j) (hi:i < L) (hL:L<=24) (hj:j < r) (hr:r<=25):z + 1 < 100000:=by omega
theorem xY {p:List (List Int)} (hp:Pl p) (hl:p.length<=24) (fG:∀ r∈p,r.length<=25):∃ kds,fq [bj p]=some (.dict kds) /\ Dt kds (eT p):=by
 have main:fT (fq [bj p]) fun d=>∃ kds,d=.dict kds /\ Dt kds (eT p):=by
  rw [xO]
  refine aX [some (bj p),some (.dict [(dC (0,0),.int 1)]),none,none,none,none,none] rfl ?_
  refine i5 (fun x:List Int×Nat=>PyData.tuple [.int (x.2:Nat),dR x.1]) p.zipIdx (fun i δ=>∃ kds a b c d e,δ=[some (bj p),some (.dict kds),a,b,c,d,e] /\ Dt kds ((a9 0 (p.take i)).foldl cC (jn (0,0))) /\ kds.length<=1 + 50 * i) ?_ ⟨_,_,_,_,_,_,rfl,?_,by simp⟩ ?_ ?_
  ·show some (fV (p.map dR))=_
   rw [DT]
  ·refine ⟨rfl,fun b g=>?_⟩
   have:fK [] [.inl 0,.inl 0] (.int 1)=[(dC (0,0),.int 1)]:=rfl
   rw [<- this]
   exact (Dt.put (kds:=[]) (F:=fun _ _=>0) ⟨rfl,fun b g=>rfl⟩ 0 0 1) b g
  ·rintro i ⟨r,n⟩ δ hi ⟨kds,a,b,c,d,e,rfl,hd,hlen⟩
   rw [List.getElem?_zipIdx] at hi
   cases er:p[i]? with
   | none=>rw [er] at hi; cases hi
   | some r'=>
   rw [er] at hi
   simp only [Option.map_some,Nat.zero_add,Option.some.injEq,Prod.mk.injEq] at hi
   obtain ⟨rfl,rfl⟩:=hi
   have FE:=(List.getElem?_eq_some_iff.mp er).1
   have Kd:=fG r' (List.mem_of_getElem? er)
   have ht:p.take (i + 1)=p.take i ++ [r']:=by rw [List.take_add_one,er]; rfl
   have Gj:(p.take i).length=i:=by rw [List.length_take]; omega
   obtain ⟨G,hG⟩:∃ G,G=(a9 0 (p.take i)).foldl cC (jn (0,0)):=⟨_,rfl⟩
   rw [<- hG] at hd
   obtain ⟨δ',e2,Ng,c2,d2,Bm,rfl,hd2,Mn⟩:=sP (t:=aE 4)
    (b:=(aA (aR 5 (jm (af 1) (aM (aa (af 4) (aa (g2 e9 (af 2) (af 4)) ah)))))
     (fS (aY (aM (aa (aM (aa (g2 ba (af 4) (gC (.int (1)))) (aa (g2 e9 (af 2) (af 4)) ah))) (aa (aM (aa (af 4) (aa (g2 ba (g2 e9 (af 2) (af 4)) (gC (.int (1)))) ah))) ah)))) (aE 6)
      (rA 1 (af 6) (g2 ba (kI (af 1) (af 6) (gC (.int (0)))) (af 5)))))) PyData.int
    (fun j δ=>∃ kds c d e,δ=[some (bj p),some (.dict kds),some (.int (i:Nat)),some (dR r'),c,d,e] /\ Dt kds ((gX i (r'.take j)).foldl cC G) /\ kds.length<=1 + 50 * i + 2 * j) r' (δ:=[some (bj p),some (.dict kds),some (.int (i:Nat)),some (dR r'),c,d,e]) ⟨kds,c,d,e,rfl,hd,by omega⟩ (by
     rintro j x δ hj ⟨kds,c,d,e,rfl,hd,hlen⟩
     have XC:=(List.getElem?_eq_some_iff.mp hj).1
     have XD:x∈r':=List.mem_of_getElem? hj
     obtain ⟨F,hF⟩:∃ F,F=(gX i (r'.take j)).foldl cC G:=⟨_,rfl⟩
     rw [<- hF] at hd
     obtain ⟨k,hk⟩:∃ k:Int×Int,k=(x,(i:Int) - x):=⟨_,rfl⟩
     have DF:(gX i (r'.take (j + 1))).foldl cC G=cC F k:=by
      rw [List.take_add_one,hj]
      unfold gX at hF ⊢
      rw [List.map_append,List.foldl_append,<- hF,hk]; rfl
     have Ap:F k.1 k.2=WW A0 p i x:=by
      rw [hF,hG,hk]
      exact A5 hp (cs:=r'.drop j) (by rw [List.take_append_drop]; exact er) (by show x + ((i:Int) - x)=_; omega)
     have AK:F k.1 k.2≠0:=by
      have:=xX hp i x (by rw [List.getD_eq_getElem?_getD,er]; exact XD)
      omega
     have Vj:x=k.1:=by rw [hk]
     have PL:(i:Int) - x=k.2:=by rw [hk]
     obtain ⟨k1,wa⟩:∃ k1,k1=fK kds [.inl (k.1 + 1),.inl k.2] (.int (F (k.1 + 1) k.2 + F k.1 k.2)):=⟨_,rfl⟩
     have w5:=hd.put (k.1 + 1) k.2 (F (k.1 + 1) k.2 + F k.1 k.2)
     rw [<- wa] at w5
     have hd2:=w5.put k.1 (k.2 + 1) (F k.1 (k.2 + 1) + F k.1 k.2)
     have l1:k1.length<=kds.length + 1:=by rw [wa]; exact j4 _ _ _
     have hz:=XB hlen FE hl XC Kd
     have l2:=j4 k1 [.inl k.1,.inl (k.2 + 1)] (.int (F k.1 (k.2 + 1) + F k.1 k.2))
     refine ⟨_,[some (bj p),some (.dict (fK k1 [.inl k.1,.inl (k.2 + 1)] (.int (F k.1 (k.2 + 1) + F k.1 k.2)))),some (.int (i:Nat)),some (dR r'),some (.int x),some (.int (F k.1 k.2)),some (dC (k.1,k.2 + 1))],rfl,?_,_,_,_,_,rfl,?_,XA l2 l1 hlen⟩
     ·refine b8 [some (bj p),some (.dict kds),some (.int (i:Nat)),some (dR r'),some (.int x),some (.int (F k.1 k.2)),e] (be ((n8 (c:=k) rfl (by rw [hk]; rfl)).trans (hd.get AK))) ?_
      unfold fS
      have hit:aY (aM (aa (aM (aa (g2 ba (af 4) (gC (.int (1)))) (aa (g2 e9 (af 2) (af 4)) ah))) (aa (aM (aa (af 4) (aa (g2 ba (g2 e9 (af 2) (af 4)) (gC (.int (1)))) ah))) ah))) [some (bj p),some (.dict kds),some (.int (i:Nat)),some (dR r'),some (.int x),some (.int (F k.1 k.2)),e]=some [dC (k.1 + 1,k.2),dC (k.1,k.2 + 1)]:=by
       show some [dC (x + 1,(i:Int) - x),dC (x,(i:Int) - x + 1)]=_
       rw [hk]
      rw [hit,Option.bind_some]
      refine Nc [some (bj p),some (.dict kds),some (.int (i:Nat)),some (dR r'),some (.int x),some (.int (F k.1 k.2)),some (dC (k.1 + 1,k.2))] [some (bj p),some (.dict k1),some (.int (i:Nat)),some (dR r'),some (.int x),some (.int (F k.1 k.2)),some (dC (k.1 + 1,k.2))] [some (bj p),some (.dict k1),some (.int (i:Nat)),some (dR r'),some (.int x),some (.int (F k.1 k.2)),some (dC (k.1,k.2 + 1))] _ rfl ?_ rfl ?_
      ·refine (n9 (c:=(k.1 + 1,k.2)) rfl rfl (aw ((jJ (c:=(k.1 + 1,k.2)) rfl rfl rfl).trans (congrArg some (hd (k.1 + 1) k.2))) rfl rfl) (Nat.lt_of_succ_lt hz)).trans ?_
       rw [wa]; rfl
      ·have h5:(bD k1 [.inl k.1,.inl (k.2 + 1)]).getD (.int 0)=.int (F k.1 (k.2 + 1)):=by
        have:=w5 k.1 (k.2 + 1)
        rw [this]
        show PyData.int (if k.1=k.1 + 1 /\ k.2 + 1=k.2 then _ else _)=_
        rw [if_neg (by omega)]
       exact n9 (c:=(k.1,k.2 + 1)) rfl rfl (aw ((jJ (c:=(k.1,k.2 + 1)) rfl rfl rfl).trans (congrArg some h5)) rfl rfl) (Nat.lt_of_le_of_lt l1 hz)
     ·rw [DF]
      refine ⟨hd2.fn,fun x y=>?_⟩
      rw [hd2 x y]
      congr 1
      show (if x=k.1 /\ y=k.2 + 1 then _ else if x=k.1 + 1 /\ y=k.2 then _ else F x y)=F x y + _ + _
      by_cases c1:x=k.1 /\ y=k.2 + 1
      ·rw [if_pos c1,if_pos c1,if_neg (by omega),c1.1,c1.2]; omega
      ·rw [if_neg c1,if_neg c1]
       by_cases c2:x=k.1 + 1 /\ y=k.2
       ·rw [if_pos c2,if_pos c2,c2.1,c2.2]; omega
       ·rw [if_neg c2,if_neg c2]; omega)
   refine ⟨_,[some (bj p),some (.dict Ng),some (.int (i:Nat)),some (dR r'),c2,d2,Bm],rfl,?_,Ng,_,_,_,_,_,rfl,?_,by omega⟩
   ·exact DP rfl e2
   ·rw [ht,gE,List.foldl_append,Gj,Nat.zero_add,<- hG]
    rw [List.take_length] at hd2
    exact hd2
  ·rintro δ' ⟨kds,a,b,c,d,e,rfl,hd,_⟩
   rw [List.length_zipIdx,List.take_length] at hd
   exact ret (.dict kds) rfl (.mk rfl ⟨kds,rfl,hd⟩)
 obtain ⟨_,e,kds,rfl,hd⟩:=main
 exact ⟨kds,e,hd⟩
theorem md {c:Int×Int}:∀ {q:List (List Int)} {n:Nat},c∈a9 n q->∃ k,k < q.length /\ c.1∈q.getD k [] /\ c.1 + c.2=((n + k:Nat):Int)
 | [],n,h=>by simp [a9] at h
 | r :: q,n,h=>by
   rw [a9,List.mem_append] at h
   rcases h with h | h
   ·obtain ⟨b,hb,rfl⟩:=List.mem_map.mp h
    exact ⟨0,by simp,by simpa using hb,by show b + ((n:Int) - b)=_; omega⟩
   ·obtain ⟨k,h1,h2,h3⟩:=md h
    exact ⟨k + 1,by simpa using h1,by simpa using h2,by rw [h3]; omega⟩
theorem xZ (p:List (List Int)) (n:Nat) (b:Int):jK p (b,(n:Int) - b)=decide (b∈p.getD n []):=by
 unfold jK
 simp only
 rw [show b + ((n:Int) - b)=(n:Int) by omega,Int.toNat_natCast,decide_eq_true (show (0:Int)<=(n:Int) by omega),Bool.true_and]
 rcases Nat.lt_or_ge n p.length with q | q
 ·rw [decide_eq_true (show (n:Int) < (p.length:Int) by omega),Bool.true_and]
 ·rw [decide_eq_false (show ¬ (n:Int) < (p.length:Int) by omega),Bool.false_and,List.getD_eq_getElem?_getD,List.getElem?_eq_none q]
  simp
theorem oi {p:List (List Int)} (hp:Pl p):aF p=(a9 1 (p.map led)).filter fun c=> !jK p c:=by
 obtain ⟨q,rfl,_⟩:=hp.ex
 unfold aF
 rw [List.filter_cons_of_neg]
 have:jK ([0] :: q) (0,0)=true:=by unfold jK; simp
 rw [this]; decide
theorem me {p:List (List Int)} (hl:p.length<=24) (fG:∀ r∈p,r.length<=25):(aF p).length<=1201:=by
 unfold aF
 refine Nat.le_trans (List.length_filter_le _ _) ?_
 have:=iM (p.map led) 1 (fun s hs=>by
  obtain ⟨t,ht,rfl⟩:=List.mem_map.mp hs
  have:=i9 (r:=t)
  have:=fG t ht
  omega)
 rw [List.length_map] at this
 rw [List.length_cons]; omega
theorem vp {p:List (List Int)} (hp:Pl p) (hl:p.length<=24) (fG:∀ r∈p,r.length<=25):fm [bj p]=some ((aF p).map dC):=by
 rw [xW hl fG,oi hp]; rfl
theorem DU {g:DS->Option D} {δ:DS} {l:List D} (h:g δ=some (.list l)):aY g δ=some l:=by unfold aY; rw [h]; rfl
theorem Gp {g:DS->Option D} {δ:DS} {l r:List D} (h:g δ=some (.list l)) (hr:fV l=r):dB g δ=some r:=by unfold dB; rw [h,<- hr]; rfl
theorem DV {α:Type} (enc:α->D) (xs:List α):fV (xs.map enc)=xs.zipIdx.map fun x=>.tuple [.int (x.2:Nat),enc x.1]:=by
 unfold fV
 rw [List.zipIdx_map,List.map_map]
 rfl
end aG
namespace aG
def sm {α:Type} (f:α->Int) (l:List α):Int:=(l.map f).sum
theorem DW {α:Type} (f:α->Int):sm f []=0:=rfl
theorem di {α:Type} (f:α->Int) (a:α) (l:List α):sm f (a :: l)=f a + sm f l:=by unfold sm; rw [List.map_cons,List.sum_cons]
theorem DX {α:Type} (f:α->Int) (l m:List α):sm f (l ++ m)=sm f l + sm f m:=by unfold sm; rw [List.map_append,List.sum_append]
theorem ya {α β:Type} (f:β->Int) (g:α->β) (l:List α):sm f (l.map g)=sm (fun a=>f (g a)) l:=by unfold sm; rw [List.map_map]; rfl
theorem eU {α:Type} {f g:α->Int} {l:List α} (h:∀ a∈l,f a=g a):sm f l=sm g l:=by unfold sm; rw [List.map_congr_left h]
theorem pM {α:Type} (f g:α->Int):∀ l:List α,sm (fun a=>f a + g a) l=sm f l + sm g l
 | []=>rfl
 | a :: l=>by rw [di,di,di,pM f g l]; omega
theorem zD {α:Type} {f:α->Int} {l:List α} (h:∀ a∈l,f a=0):sm f l=0:=by
 induction l with
 | nil=>rfl
 | cons a l ih=>rw [di,h a List.mem_cons_self,ih fun b hb=>h b (List.mem_cons_of_mem _ hb)]; rfl
theorem Gr {α:Type} {f:α->Int} {l m:List α} (h:l.Perm m):sm f l=sm f m:=by
 induction h with
 | nil=>rfl
 | cons a _ ih=>rw [di,di,ih]
 | swap a b l=>rw [di,di,di,di]; omega
 | trans _ _ i j=>rw [i,j]
theorem mX {α:Type} (f:α->Int) (P:α->Bool):∀ l:List α,sm f (l.filter P)=sm (fun a=>if P a=true then f a else 0) l
 | []=>rfl
 | a :: l=>by
   rw [List.filter_cons,di,<- mX f P l]
   cases P a with
   | true=>rw [if_pos rfl,if_pos rfl,di]
   | false=>rw [if_neg (by decide),if_neg (by decide)]; omega
theorem yb {f:Int->Int} {l s:List Int} (hl:l.Nodup) (hs:s.Nodup) (h:∀ x∈s,x∈l):sm (fun a=>if a∈s then f a else 0) l=sm f s:=by
 have pm:List.Perm (l.filter fun x=>decide (x∈s)) s:=(List.perm_ext_iff_of_nodup (hl.sublist List.filter_sublist) hs).mpr fun z=>by
  rw [List.mem_filter,decide_eq_true_eq]
  exact ⟨fun q=>q.2,fun q=>⟨h z q,q⟩⟩
 rw [<- Gr pm,mX]
 exact eU fun a _=>by simp
theorem Nh {A:Int->Int} {r:List Int} (hr:tf r) (f:Int->Int):sm (fun b=>lv A r b * f b) (led r)=sm (fun b=>A b * (f (b + 1) + f b)) r:=by
 have nl:(led r).Nodup:=j8 gA
 have nr:=j8 hr
 have e1:sm (fun b=>if b∈r then A b * f b else 0) (led r)=sm (fun b=>A b * f b) r:=yb nl nr fun x hx=>hX.mpr (.inl hx)
 have e2:sm (fun b=>if b∈r.map (· + 1) then A (b - 1) * f b else 0) (led r)=sm (fun b=>A b * f (b + 1)) r:=by
  rw [yb (f:=fun b=>A (b - 1) * f b) nl (List.pairwise_map.mpr (nr.imp fun h e=>h (by omega))) (fun x hx=>by
   obtain ⟨y,hy,rfl⟩:=List.mem_map.mp hx
   exact hX.mpr (.inr (by rw [show y + 1 - 1=y by omega]; exact hy))),ya]
  exact eU fun a _=>by rw [show a + 1 - 1=a by omega]
 have e3:sm (fun b=>A b * (f (b + 1) + f b)) r=sm (fun b=>A b * f (b + 1)) r + sm (fun b=>A b * f b) r:=by
  rw [<- pM]
  exact eU fun a _=>by rw [Int.mul_add]
 rw [e3,<- e1,<- e2,<- pM]
 refine eU fun b _=>?_
 have m:b∈r.map (· + 1)↔b - 1∈r:=by
  rw [List.mem_map]
  exact ⟨fun ⟨y,hy,e⟩=>by rw [show b - 1=y by omega]; exact hy,fun h=>⟨b - 1,h,by omega⟩⟩
 unfold lv
 simp only [m]
 split <;> split <;> simp [Int.add_mul]
def HZ (φ:Int->Int->Int) (c:Int×Int):Int:=φ (c.1 + 1) c.2 + φ c.1 (c.2 + 1) - φ c.1 c.2
theorem vq {p:List (List Int)} (φ:Int->Int->Int):∀ (q:List (List Int)) (r:List Int) (n:Nat) (A:Int->Int) (W:Int->Int->Int),(∀ j,p.getD (n + j) []=(r :: q).getD j [])->Gd r q->tf r->
  (∀ (x y:Int) (j:Nat),x + y=(n:Int) + (j:Int)->W x y=WW A (r :: q) j x)->
  sm (fun c=>W c.1 c.2 * φ c.1 c.2) ((a9 (n + 1) ((r :: q).map led)).filter fun c=> !jK p c)=sm (fun b=>A b * φ b ((n:Int) - b)) r + sm (fun c=>W c.1 c.2 * HZ φ c) (a9 n (r :: q))
 | q,r,n,A,W,hg,hc,hr,hW=>by
   have nl:(led r).Nodup:=j8 gA
   have e1:=hg 1
   have JA:sm (fun c=>W c.1 c.2 * φ c.1 c.2) ((gX (n + 1) (led r)).filter fun c=> !jK p c)=sm (fun b=>lv A r b * φ b ((n:Int) + 1 - b)) ((led r).filter fun b=> !decide (b∈p.getD (n + 1) [])):=by
    unfold gX
    rw [List.filter_map,ya]
    have ef:((fun c:Int×Int=> !jK p c) ∘ fun b:Int=>(b,((n + 1:Nat):Int) - b))=fun b=> !decide (b∈p.getD (n + 1) []):=by
     funext b
     show (!jK p (b,((n + 1:Nat):Int) - b))=_
     rw [xZ]
    rw [ef]
    refine eU fun b _=>?_
    show W b (((n + 1:Nat):Int) - b) * φ b (((n + 1:Nat):Int) - b)=_
    rw [hW b (((n + 1:Nat):Int) - b) 1 (by push_cast; omega),show ((n + 1:Nat):Int) - b=(n:Int) + 1 - b by push_cast; rfl]
    show WW (lv A r) q 0 b * _=_
    rw [WW_0]
   have ZP:=Nh hr (A:=A) (fun b=>φ b ((n:Int) + 1 - b))
   have sL:∀ s:List Int,s.Nodup->(∀ x∈s,x∈led r)->sm (fun b=>lv A r b * φ b ((n:Int) + 1 - b)) ((led r).filter fun b=> !decide (b∈s)) + sm (fun b=>lv A r b * φ b ((n:Int) + 1 - b)) s=sm (fun b=>lv A r b * φ b ((n:Int) + 1 - b)) (led r):=by
    intro s hs uD
    rw [mX,<- yb (f:=fun b=>lv A r b * φ b ((n:Int) + 1 - b)) nl hs uD,<- pM]
    refine eU fun b _=>?_
    by_cases q:b∈s
    ·simp [q]
    ·simp [q]
   have XE:sm (fun c=>W c.1 c.2 * HZ φ c) (gX n r) + sm (fun b=>A b * φ b ((n:Int) - b)) r=sm (fun b=>A b * (φ (b + 1) ((n:Int) + 1 - (b + 1)) + φ b ((n:Int) + 1 - b))) r:=by
    unfold gX
    rw [ya,<- pM]
    refine eU fun b _=>?_
    show W b ((n:Int) - b) * HZ φ (b,(n:Int) - b) + _=_
    rw [hW b ((n:Int) - b) 0 (by push_cast; omega),WW_0]
    unfold HZ
    show A b * (φ (b + 1) ((n:Int) - b) + φ b ((n:Int) - b + 1) - φ b ((n:Int) - b)) + _=_
    rw [show (n:Int) + 1 - (b + 1)=(n:Int) - b by omega,show (n:Int) + 1 - b=(n:Int) - b + 1 by omega,<- Int.mul_add]
    congr 1
    omega
   rw [List.map_cons,a9,List.filter_append,DX,JA,e1,a9,DX]
   cases q with
   | nil=>
     have:=sL [] (by simp) (by simp)
     simp only [List.map_nil,a9,List.filter_nil,DW]
     rw [DW] at this
     rw [show ([r]:List (List Int)).getD 1 []=[] from rfl]
     omega
   | cons s q=>
     have hs:=hc.1
     have h2:=sL s (j8 hs.2.1) hs.2.2
     have ih:=vq (p:=p) φ q s (n + 1) (lv A r) W (fun j=>by rw [show n + 1 + j=n + (j + 1) by omega,hg (j + 1)]; rfl) hc.2 hs.2.1 (fun x y j h=>by
      rw [hW x y (j + 1) (by push_cast at h ⊢; omega)]; rfl)
     rw [show (r :: s :: q).getD 1 []=s from rfl,ih]
     rw [show sm (fun b=>lv A r b * φ b (((n + 1:Nat):Int) - b)) s=sm (fun b=>lv A r b * φ b ((n:Int) + 1 - b)) s from by push_cast; rfl]
     omega
theorem Gs {p:List (List Int)} (hp:Pl p) (φ:Int->Int->Int):sm (fun c=>eT p c.1 c.2 * φ c.1 c.2) (aF p)=φ 0 0 + sm (fun c=>eT p c.1 c.2 * HZ φ c) (a9 0 p):=by
 rw [oi hp]
 have hw:∀ (x y:Int) (j:Nat),x + y=((0:Nat):Int) + (j:Int)->eT p x y=WW A0 p j x:=fun x y j h=>vo hp (by omega)
 obtain ⟨q,rfl,hc⟩:=hp.ex
 have:=vq (p:=[0] :: q) φ q [0] 0 A0 (eT ([0] :: q)) (fun j=>by rw [Nat.zero_add]) hc (by unfold tf; simp) hw
 rw [this]
 congr 1
 simp [sm,A0]
theorem vt {p:List (List Int)} (hp:Pl p) {φ:Int->Int->Int} (h:∀ c∈a9 0 p,HZ φ c=0):sm (fun c=>eT p c.1 c.2 * φ c.1 c.2) (aF p)=φ 0 0:=by
 rw [Gs hp,zD fun c hc=>by rw [h c hc,Int.mul_zero]]; omega
end aG
namespace aG
open PySem L2 Q1
def nx (c:Int×Int) (x:Bool):Int×Int:=if x=true then (c.1 + 1,c.2) else (c.1,c.2 + 1)
def rL (p:List (List Int)):Nat->Int×Int->List (List Bool)
 | 0,_=>[[]]
 | n + 1,c=>if jK p c=true then (rL p n (nx c true)).map (true :: ·) ++ (rL p n (nx c false)).map (false :: ·) else [[]]
def T (p:List (List Int)) (c:Int×Int):List (List Bool):=rL p (p.length - (c.1 + c.2).toNat + 1) c
theorem pN {p:List (List Int)} {c:Int×Int} (h:jK p c=true):0<=c.1 + c.2 /\ c.1 + c.2 < (p.length:Int):=by
 unfold jK at h
 rw [Bool.and_eq_true,Bool.and_eq_true,decide_eq_true_eq,decide_eq_true_eq] at h
 exact h.1
theorem jL (c:Int×Int) (x:Bool):(nx c x).1 + (nx c x).2=c.1 + c.2 + 1:=by
 cases x
 ·show c.1 + (c.2 + 1)=_; omega
 ·show c.1 + 1 + c.2=_; omega
theorem toN {L:Nat} {x:Int} (h:0<=x /\ x < (L:Int)):L - x.toNat=L - (x + 1).toNat + 1:=by
 obtain ⟨k,rfl⟩:=Int.eq_ofNat_of_zero_le h.1
 have hk:k < L:=Int.ofNat_lt.mp h.2
 show L - k=L - (k + 1) + 1
 omega
theorem pO {p:List (List Int)} {c:Int×Int} (h:jK p c=false):T p c=[[]]:=by
 unfold T rL
 rw [h]; rfl
theorem yc {p:List (List Int)} {c:Int×Int} (h:jK p c=true):T p c=(T p (nx c true)).map (true :: ·) ++ (T p (nx c false)).map (false :: ·):=by
 have hl:=pN h
 have e:∀ x,p.length - (c.1 + c.2).toNat=p.length - ((nx c x).1 + (nx c x).2).toNat + 1:=fun x=>by rw [jL]; exact toN hl
 conv=>lhs; unfold T rL
 rw [if_pos h,e true]
 rw [show rL p (p.length - ((nx c true).1 + (nx c true).2).toNat + 1) (nx c false)=T p (nx c false) by unfold T; rw [jL,jL]]
 rfl
theorem DY {p:List (List Int)} {P:Int×Int->Prop} (h0:∀ c,jK p c=false->P c) (h1:∀ c,jK p c=true->P (nx c true)->P (nx c false)->P c) (c:Int×Int):P c:=by
 suffices h:∀ (n:Nat) c,p.length<=(c.1 + c.2).toNat + n->P c by exact h p.length c (by omega)
 intro n
 induction n with
 | zero=>
   intro c hc
   refine h0 c ?_
   cases hg:jK p c with
   | false=>rfl
   | true=>have:=pN hg; omega
 | succ n ih=>
   intro c hc
   cases hg:jK p c with
   | false=>exact h0 c hg
   | true=>
     have:=pN hg
     exact h1 c hg (ih _ (by rw [jL]; omega)) (ih _ (by rw [jL]; omega))
def go (c:Int×Int):List Bool->Int×Int
 | []=>c
 | x :: w=>go (nx c x) w
theorem Ki (c:Int×Int) (w:List Bool) (x:Bool):go c (w ++ [x])=nx (go c w) x:=by
 induction w generalizing c with
 | nil=>rfl
 | cons y w ih=>exact ih _
def ph (p:List (List Int)) (e:Int×Int) (c:Int×Int):Int:=((T p c).countP fun w=>decide (go c w=e):Nat)
theorem Kj {p:List (List Int)} {e c:Int×Int} (h:jK p c=false):ph p e c=if c=e then 1 else 0:=by
 unfold ph
 rw [pO h]
 show ((List.countP (fun w=>decide (go c w=e)) [[]]:Nat):Int)=_
 rw [List.countP_cons,List.countP_nil]
 show (((0 + if decide (c=e)=true then 1 else 0:Nat)):Int)=_
 by_cases z:c=e
 ·rw [if_pos z,if_pos (decide_eq_true z)]; rfl
 ·rw [if_neg z,if_neg (by rw [decide_eq_false z]; exact Bool.false_ne_true)]; rfl
theorem Ni {p:List (List Int)} {e c:Int×Int} (h:jK p c=true):ph p e c=ph p e (nx c true) + ph p e (nx c false):=by
 unfold ph
 rw [yc h,List.countP_append,List.countP_map,List.countP_map,Int.natCast_add]
 rfl
theorem nB {p:List (List Int)} {c:Int×Int} (h:c∈a9 0 p):jK p c=true:=by
 obtain ⟨k,hk,h1,h2⟩:=md h
 have e:c=(c.1,((k:Nat):Int) - c.1):=by
  rw [show ((k:Nat):Int) - c.1=c.2 by rw [Nat.zero_add] at h2; omega]
 rw [e,xZ]
 exact decide_eq_true h1
theorem Kk {p:List (List Int)} {e:Int×Int}:∀ c∈a9 0 p,HZ (fun x y=>ph p e (x,y)) c=0:=fun c hc=>by
 have h:=Ni (e:=e) (nB hc)
 unfold HZ
 have h:ph p e c=ph p e (c.1 + 1,c.2) + ph p e (c.1,c.2 + 1):=h
 show ph p e (c.1 + 1,c.2) + ph p e (c.1,c.2 + 1) - ph p e (c.1,c.2)=0
 rw [show ((c.1,c.2):Int×Int)=c from rfl]
 omega
theorem Gu:∀ {q:List (List Int)} {n:Nat},(∀ r∈q,r.Nodup)->(a9 n q).Nodup:=by
 intro q
 induction q with
 | nil=>intro n _; exact List.nodup_nil
 | cons r q ih=>
   intro n h
   show (gX n r ++ a9 (n + 1) q).Nodup
   refine List.nodup_append.mpr ⟨?_,ih fun s hs=>h s (List.mem_cons_of_mem _ hs),fun a ha b hb=>?_⟩
   ·unfold gX
    exact List.Pairwise.map _ (fun a b HG z=>HG (congrArg Prod.fst z)) (h r List.mem_cons_self)
   ·obtain ⟨x,hx,rfl⟩:=List.mem_map.mp ha
    obtain ⟨k,_,_,h2⟩:=md hb
    intro z
    rw [<- z] at h2
    have:x + ((n:Int) - x)=((n + 1 + k:Nat):Int):=h2
    omega
theorem Kl (r:List Int):(led r).Nodup:=j8 gA
theorem zF {p:List (List Int)} (hp:Pl p):(aF p).Nodup:=by
 rw [oi hp]
 refine (Gu fun r hr=>?_).sublist List.filter_sublist
 obtain ⟨s,_,rfl⟩:=List.mem_map.mp hr
 exact Kl s
theorem Km {l:List (Int×Int)} (hn:l.Nodup) {e:Int×Int} (he:e∈l) (f:Int×Int->Int):sm (fun c=>f c * (if c=e then 1 else 0)) l=f e:=by
 induction l with
 | nil=>cases he
 | cons a l ih=>
   rw [di]
   obtain ⟨h1,h2⟩:=List.nodup_cons.mp hn
   by_cases z:a=e
   ·subst z
    rw [if_pos rfl,Int.mul_one,zD,Int.add_zero]
    intro c hc
    rw [if_neg (show ¬ c=a from fun q=>h1 (q ▸ hc)),Int.mul_zero]
   ·rw [if_neg z,Int.mul_zero,Int.zero_add]
    rcases List.mem_cons.mp he with q | q
    ·exact absurd q.symm z
    ·exact ih h2 q
theorem zG {p:List (List Int)} {c:Int×Int} (h:c∈aF p):jK p c=false:=by
 unfold aF at h
 have:=(List.mem_filter.mp h).2
 simpa using this
theorem Gv {p:List (List Int)} (hp:Pl p) {e:Int×Int} (he:e∈aF p):eT p e.1 e.2=ph p e (0,0):=by
 have h:=vt hp (φ:=fun x y=>ph p e (x,y)) Kk
 rw [<- h,<- Km (zF hp) he fun c=>eT p c.1 c.2]
 refine eU fun c hc=>?_
 rw [Kj (zG hc)]
theorem Nj {p:List (List Int)} (c:Int×Int):∀ w∈T p c,jK p (go c w)=false:=by
 refine DY (p:=p) (P:=fun c=>∀ w∈T p c,jK p (go c w)=false) (fun c h w hw=>?_) (fun c h i j w hw=>?_) c
 ·rw [pO h,List.mem_singleton] at hw
  subst hw; exact h
 ·rw [yc h,List.mem_append,List.mem_map,List.mem_map] at hw
  rcases hw with ⟨u,hu,rfl⟩ | ⟨u,hu,rfl⟩
  ·exact i u hu
  ·exact j u hu
theorem Kn {p:List (List Int)} {c:Int×Int} {k:Nat} (h:jK p c=true) (e:c.1 + c.2=(k:Int)):k < p.length /\ c.1∈p.getD k []:=by
 have hl:=pN h
 have e2:c=(c.1,(k:Int) - c.1):=by rw [show (k:Int) - c.1=c.2 by omega]
 rw [e2,xZ,decide_eq_true_eq] at h
 exact ⟨by omega,h⟩
theorem Gw {b:Int}:∀ {q:List (List Int)} {n k:Nat},b∈q.getD k []->k < q.length->(b,((n + k:Nat):Int) - b)∈a9 n q:=by
 intro q
 induction q with
 | nil=>intro n k _ h; cases h
 | cons r q ih=>
   intro n k hb hk
   show _∈gX n r ++ a9 (n + 1) q
   cases k with
   | zero=>exact List.mem_append_left _ (List.mem_map.mpr ⟨b,hb,rfl⟩)
   | succ k=>
     have:=ih (n:=n + 1) (k:=k) hb (by simpa using hk)
     rw [show n + 1 + k=n + (k + 1) by omega] at this
     exact List.mem_append_right _ this
theorem Gx {p:List (List Int)} (c:Int×Int):c∈(0,0) :: a9 1 (p.map led)->∀ u∈T p c,go c u∈(0,0) :: a9 1 (p.map led):=by
 refine DY (p:=p) (P:=fun c=>c∈(0,0) :: a9 1 (p.map led)->∀ u∈T p c,go c u∈(0,0) :: a9 1 (p.map led)) (fun c h hc u hu=>?_) (fun c h i j hc u hu=>?_) c
 ·rw [pO h] at hu
  rw [List.mem_singleton.mp hu]; exact hc
 ·have hl:=pN h
  obtain ⟨k,hk⟩:∃ k:Nat,c.1 + c.2=(k:Int):=⟨(c.1 + c.2).toNat,by omega⟩
  obtain ⟨h1,h2⟩:=Kn h hk
  have Vz:∀ x,nx c x∈(0,0) :: a9 1 (p.map led):=fun x=>by
   have hm:(nx c x).1∈(p.map led).getD k []:=by
    rw [List.getD_eq_getElem?_getD,List.getElem?_map,List.getElem?_eq_getElem h1]
    show (nx c x).1∈led p[k]
    rw [List.getD_eq_getElem?_getD,List.getElem?_eq_getElem h1] at h2
    have h2:c.1∈p[k]:=h2
    cases x
    ·exact hX.mpr (.inl h2)
    ·exact hX.mpr (.inr (by rw [show (nx c true).1 - 1=c.1 from by show c.1 + 1 - 1=c.1; omega]; exact h2))
   have:=Gw (n:=1) hm (by rw [List.length_map]; exact h1)
   have e:((1 + k:Nat):Int) - (nx c x).1=(nx c x).2:=by have:=jL c x; omega
   rw [e] at this
   exact List.mem_cons_of_mem _ this
  rw [yc h] at hu
  rcases List.mem_append.mp hu with z | z
  ·obtain ⟨w,hw,rfl⟩:=List.mem_map.mp z
   exact i (Vz true) w hw
  ·obtain ⟨w,hw,rfl⟩:=List.mem_map.mp z
   exact j (Vz false) w hw
theorem row_end {p:List (List Int)} {u:List Bool} (hu:u∈T p (0,0)):go (0,0) u∈aF p:=by
 unfold aF
 rw [List.mem_filter]
 exact ⟨Gx (0,0) List.mem_cons_self u hu,by rw [Nj (0,0) u hu]; rfl⟩
def ch (x:Bool):Nat:=if x=true then 98 else 103
def tx (w:List Bool):Str:=⟨(w.map ch).toArray⟩
theorem mY (w:List Bool):(tx w).cps.toList=w.map ch:=by unfold tx; simp
theorem DZ (w:List Bool):(tx w).length=w.length:=by
 show (tx w).cps.size=_
 rw [<- Array.length_toList,mY,List.length_map]
theorem Gy {x y:Str} (h:x.cps.toList=y.cps.toList):x=y:=by
 obtain ⟨a⟩:=x
 obtain ⟨b⟩:=y
 congr 1
 exact Array.toList_inj.mp h
theorem Ko (a b:List Bool):tx a ++ tx b=tx (a ++ b):=by
 refine Gy ?_
 show ((tx a).cps ++ (tx b).cps).toList=_
 rw [Array.toList_append,mY,mY,mY,List.map_append]
theorem Nk:("b":Str)=tx [true]:=by decide +kernel
theorem Nl:("g":Str)=tx [false]:=by decide +kernel
theorem tx_0:("":Str)=tx []:=by decide +kernel
theorem Kp (w:List Bool):(tx w).cps.all (· < 128)=true:=by
 rw [<- Array.all_toList,mY,List.all_map,List.all_eq_true]
 intro x _
 cases x <;> decide
theorem D0 (w:List Bool):kJ (tx w)=w.map fun x=>.str (tx [x]):=by
 unfold kJ
 rw [mY,List.map_map]
 rfl
theorem D1 {w:List Bool} {x:Bool} (h:w.length<=1000):ba (.str (tx w)) (.str (tx [x]))=some (.str (tx (w ++ [x]))):=by
 have e:ba (.str (tx w)) (.str (tx [x]))=some (.str (tx w ++ tx [x])):=if_pos (by rw [DZ,DZ]; simp; omega)
 rw [e,Ko]
theorem D2 {g:DS->Option D} {δ:DS} {b:Bool} (h:g δ=some (.bool b)):nM g δ=some b:=by unfold nM; rw [h]; rfl
theorem vv {g:DS->Option (List D)} {δ:DS} {xs:List D} (h:g δ=some xs) (hl:xs.length<=100000):aM g δ=some (.tuple xs):=by
 unfold aM
 rw [h,Option.bind_some,if_pos hl]
def ms (p:List (List Int)) (P:List (List Bool)):Nat:=(P.map fun w=>2 * (T p (go (0,0) w)).length - 1).sum
def bT (w:List Bool) (t:List (List Bool)):List D:=t.map fun u=>.str (tx (w ++ u))
theorem qD {p:List (List Int)} (hl:p.length<=24):∀ (n:Nat) (c:Int×Int) (w:List Bool),c.1 + c.2=(w.length:Int)->(p.length:Int)<=c.1 + c.2 + n->w.length<=25->(T p c).length<=4000->bx (n + 1) [bj p,.str (tx w),dC c]=some (bT w (T p c)):=by
 intro n
 induction n with
 | zero=>
   intro c w hw hn XF hT
   have hg:jK p c=false:=by
    cases h:jK p c with
    | false=>rfl
    | true=>have:=pN h; omega
   rw [kq,pO hg]
   refine br (l7 true (l8 (x:=false) (D2 (call_of (cons_of rfl (cons_of rfl rfl)) rfl ((gF p c).trans (by rw [hg]))))) (fun _=>n6 _ rfl (.mk rfl ?_)) fun z=>nomatch z)
   show [PyData.str (tx w)]=[PyData.str (tx (w ++ []))]
   rw [List.append_nil]
 | succ n ih=>
   intro c w hw hn XF hT
   rw [kq]
   refine br ?_
   cases hg:jK p c with
   | false=>
     rw [pO hg]
     refine l7 true (l8 (x:=false) (D2 (call_of (cons_of rfl (cons_of rfl rfl)) rfl ((gF p c).trans (by rw [hg]))))) (fun _=>n6 _ rfl (.mk rfl ?_)) fun z=>nomatch z
     show [PyData.str (tx w)]=[PyData.str (tx (w ++ []))]
     rw [List.append_nil]
   | true=>
     have g5:=pN hg
     have hs:∀ x,(nx c x).1 + (nx c x).2=((w ++ [x]).length:Int):=fun x=>by rw [jL,List.length_append,List.length_singleton]; omega
     have ZQ:(T p c).length=(T p (nx c true)).length + (T p (nx c false)).length:=by rw [yc hg,List.length_append,List.length_map,List.length_map]
     have len:∀ x,(T p (nx c x)).length<=4000:=fun x=>by cases x <;> omega
     have i:∀ x,bx (n + 1) [bj p,.str (tx (w ++ [x])),dC (nx c x)]=some (bT (w ++ [x]) (T p (nx c x))):=fun x=>ih (nx c x) (w ++ [x]) (hs x) (by rw [jL]; omega) (by rw [List.length_append,List.length_singleton]; omega) (len x)
     have hr:∀ x,bT (w ++ [x]) (T p (nx c x))=bT w ((T p (nx c x)).map (x :: ·)):=fun x=>by
      unfold bT
      rw [List.map_map]
      refine List.map_congr_left fun u _=>?_
      show PyData.str (tx (w ++ [x] ++ u))=PyData.str (tx (w ++ x :: u))
      rw [List.append_assoc]; rfl
     refine kL (l8 (x:=true) (D2 (call_of (cons_of rfl (cons_of rfl rfl)) rfl ((gF p c).trans (by rw [hg]))))) ?_
     have e1:∀ z:Option D,cm (bx (n + 1)) 3 (aa (af 0) (aa (g2 ba (af 1) (gC (.str "b"))) (aa (aC b9 2 (aa (af 2) (aa (gC (.str "b")) ah))) ah))) [some (bj p),some (.str (tx w)),some (dC c),z]=some (bT w ((T p (nx c true)).map (true :: ·))):=fun z=>by
      rw [<- hr]
      exact dE (cons_of rfl (cons_of (aw rfl rfl (by rw [Nk]; exact D1 (by omega))) (cons_of (call_of (cons_of rfl (cons_of rfl rfl)) rfl (mU c)) rfl))) rfl (i true)
     have e2:∀ z:Option D,cm (bx (n + 1)) 3 (aa (af 0) (aa (g2 ba (af 1) (gC (.str "g"))) (aa (aC b9 2 (aa (af 2) (aa (gC (.str "g")) ah))) ah))) [some (bj p),some (.str (tx w)),some (dC c),z]=some (bT w ((T p (nx c false)).map (false :: ·))):=fun z=>by
      rw [<- hr]
      exact dE (cons_of rfl (cons_of (aw rfl rfl (by rw [Nl]; exact D1 (by omega))) (cons_of (call_of (cons_of rfl (cons_of rfl rfl)) rfl (mV c)) rfl))) rfl (i false)
     refine aX [some (bj p),some (.str (tx w)),some (dC c),some (.list (bT w ((T p (nx c true)).map (true :: ·))))] (F9 (e1 _)) ?_
     refine aX [some (bj p),some (.str (tx w)),some (dC c),some (.list (bT w (T p c)))] ((tm (ds:=bT w ((T p (nx c true)).map (true :: ·))) rfl (e2 _) ?_).trans ?_) (ret _ rfl (.mk rfl rfl))
     ·unfold bT
      rw [List.length_map,List.length_map,List.length_map,List.length_map]
      have:=len true
      have:=len false
      omega
     ·rw [yc hg]
      unfold bT
      rw [List.map_append]; rfl
theorem zH {l:List (Int×Int)} {f:Int×Int->Int}:b4 (l.map f)=sm f l:=by
 induction l with
 | nil=>rfl
 | cons a l ih=>rw [List.map_cons,b4,ih,di]
theorem D3 {g:DS->Option D} {δ:DS} {l:List Int} (h:g δ=some (.list (l.map .int))):eM AG (aa g ah) δ=some (.int (b4 l)):=by
 refine iL (cons_of h rfl) ?_
 show (kl (l.map .int)).map _=_
 rw [mJ]; rfl
theorem tw {p:List (List Int)} (hp:Pl p) {c:Int×Int} (h:c∈aF p):eT p c.1 c.2≠0:=by
 rw [oi hp] at h
 obtain ⟨k,hk,h1,h2⟩:=md (List.mem_filter.mp h).1
 rw [List.length_map] at hk
 have e:(p.map led).getD k []=led (p.getD k []):=by
  rw [List.getD_eq_getElem?_getD,List.getD_eq_getElem?_getD,List.getElem?_map,List.getElem?_eq_getElem hk]; rfl
 rw [e] at h1
 rw [vo hp (k:=k + 1) (by rw [h2]; congr 1; omega)]
 exact Int.ne_of_gt (Kh hp k c.1 h1)
theorem vw {p:List (List Int)} (hp:Pl p):sm (fun c=>eT p c.1 c.2) (aF p)=((T p (0,0)).length:Nat):=by
 have h:=vt hp (φ:=fun x y=>((T p (x,y)).length:Int)) fun c hc=>by
  have hg:=nB hc
  show ((T p (c.1 + 1,c.2)).length:Int) + ((T p (c.1,c.2 + 1)).length:Int) - ((T p (c.1,c.2)).length:Int)=0
  have:(T p (c.1,c.2)).length=(T p (c.1 + 1,c.2)).length + (T p (c.1,c.2 + 1)).length:=by rw [yc (c:=(c.1,c.2)) hg,List.length_append,List.length_map,List.length_map]; rfl
  omega
 rw [<- h]
 refine eU fun c hc=>?_
 show _=eT p c.1 c.2 * ((T p c).length:Int)
 rw [pO (zG hc)]
 exact (Int.mul_one _).symm
theorem D4 {p:List (List Int)} (hp:Pl p) {kds:List (D×D)} (hd:Dt kds (eT p)) {gi:DS->Option (List D)} {gd:DS->Option D} {ix:List Nat} {δ:DS} (hi:gi δ=some ((aF p).map dC)) (hl:(aF p).length<=100000) (hg:∀ c,gd (some (dC c) :: c5 ix δ)=some (.dict kds)):
  gB (g2 tZ (eM AG (aa (aU (cO gi ix (jm gd (af 0)))) ah)) (gC (.int (4000)))) δ=some (decide (4000 < (T p (0,0)).length)):=by
 have ec:cO gi ix (jm gd (af 0)) δ=some (((aF p).map fun c=>eT p c.1 c.2).map .int):=
  g9 dC PyData.int (fun c=>eT p c.1 c.2) (aF p) hi hl fun c hc=>(n8 (c:=c) (hg c) rfl hd.fn).trans (Dt.get hd (tw hp hc))
 refine cB (aw (D3 (bS ec)) rfl ?_)
 show some (PyData.bool (decide (4000 < b4 ((aF p).map fun c=>eT p c.1 c.2))))=_
 rw [zH,vw hp]
 refine congrArg (fun b=>some (PyData.bool b)) ?_
 rw [Bool.eq_iff_iff,decide_eq_true_eq,decide_eq_true_eq]
 omega
theorem kX {p:List (List Int)} (hp:Pl p) (hl:p.length<=24) (fG:∀ r∈p,r.length<=25):iK [bj p]=some (if 4000 < (T p (0,0)).length then mB "TooMany" else .list (bT [] (T p (0,0)))):=by
 rw [xJ]
 refine br ?_
 obtain ⟨kds,e,hd⟩:=vk (p:=p) hl fG (0,0)
 refine aX [some (bj p),some (.dict kds)] (be (call_of (cons_of rfl (cons_of rfl rfl)) rfl e)) ?_
 have Qf:=me (p:=p) hl fG
 have es:=D4 (ix:=[1]) (gi:=aY (aU (cm jE 1 (aa (af 0) ah)))) (gd:=af 1) (δ:=[some (bj p),some (.dict kds)]) hp hd (DU (bS (dE (cons_of rfl rfl) rfl (DM (p:=p) hl fG)))) (by omega) fun c=>rfl
 by_cases hT:4000 < (T p (0,0)).length
 ·rw [decide_eq_true hT] at es
  rw [if_pos hT]
  exact l7 true es (fun _=>.mk rfl rfl) fun z=>nomatch z
 ·rw [decide_eq_false hT] at es
  rw [if_neg hT]
  refine kL es ?_
  have e3:fF [bj p,.str "",dC (0,0)]=some (bT [] (T p (0,0))):=by
   rw [tx_0]
   exact qD hl 25 (0,0) [] rfl (by show (p.length:Int)<=0 + 0 + ((25:Nat):Int); omega) (by decide) (by omega)
  exact ret _ (bS (dE (cons_of rfl (cons_of rfl (cons_of rfl rfl))) rfl e3)) (.mk rfl rfl)
theorem Nm (x:Bool):kD (.str (tx [x])) (.tuple [.str "b",.str "g"])=some (.bool false):=by
 have e:kD (.str (tx [x])) (.tuple [.str "b",.str "g"])=some (.bool (!(Ck (.str "b") (.str (tx [x])) || (Ck (.str "g") (.str (tx [x])) || false)))):=rfl
 rw [e]
 have z:(Ck (.str "b") (.str (tx [x])) || (Ck (.str "g") (.str (tx [x])) || false))=true:=by cases x <;> decide +kernel
 rw [z]; rfl
theorem v_after (c:Int×Int) (x:Bool):b9 [dC c,.str (tx [x])]=some (dC (nx c x)):=by
 cases x
 ·rw [<- Nl]; exact mV c
 ·rw [<- Nk]; exact mU c
theorem Kq {p:List (List Int)} (c:Int×Int):∀ u∈T p c,∀ k,k < u.length->jK p (go c (u.take k))=true:=by
 refine DY (p:=p) (P:=fun c=>∀ u∈T p c,∀ k,k < u.length->jK p (go c (u.take k))=true) (fun c h u hu k hk=>?_) (fun c h i j u hu k hk=>?_) c
 ·rw [pO h] at hu
  rw [List.mem_singleton.mp hu] at hk
  simp at hk
 ·rw [yc h] at hu
  cases k with
  | zero=>exact h
  | succ k=>
    rcases List.mem_append.mp hu with z | z
    ·obtain ⟨w,hw,rfl⟩:=List.mem_map.mp z
     exact i w hw k (by simpa using hk)
    ·obtain ⟨w,hw,rfl⟩:=List.mem_map.mp z
     exact j w hw k (by simpa using hk)
theorem D5 {p:List (List Int)} {u:List Bool} (hu:u∈T p (0,0)):fL [bj p,.str (tx u)]=some (dC (go (0,0) u)):=by
 rw [Dv]
 refine br ?_
 refine aX [some (bj p),some (.str (tx u)),some (dC (0,0)),none] rfl ?_
 refine i5 (fun x:Bool=>PyData.str (tx [x])) u (fun k δ=>∃ a,δ=[some (bj p),some (.str (tx u)),some (dC (go (0,0) (u.take k))),a]) ?_ ⟨none,rfl⟩ ?_ ?_
 ·show (if (tx u).cps.all (· < 128)=true then some (kJ (tx u)) else none)=_
  rw [if_pos (Kp u),D0]
 ·rintro k x δ hk ⟨a,rfl⟩
  have N8:=(List.getElem?_eq_some_iff.mp hk).1
  have hg:=Kq (0,0) u hu k N8
  have ht:u.take (k + 1)=u.take k ++ [x]:=by rw [List.take_add_one,hk]; rfl
  refine ⟨_,[some (bj p),some (.str (tx u)),some (dC (go (0,0) (u.take (k + 1)))),some (.str (tx [x]))],rfl,?_,_,rfl⟩
  refine b8 _ (u9 (HX (cB (aw rfl rfl (Nm x))) (l8 (sQ (call_of (cons_of rfl (cons_of rfl rfl)) rfl ((gF p _).trans (by rw [hg]))))))) ?_
  rw [ht,Ki]
  exact be (call_of (cons_of rfl (cons_of rfl rfl)) rfl (v_after _ x))
 ·rintro δ' ⟨a,rfl⟩
  rw [List.take_length]
  exact kL (sQ (call_of (cons_of rfl (cons_of rfl rfl)) rfl ((gF p _).trans (by rw [Nj (0,0) u hu])))) (ret _ rfl (.mk rfl rfl))
theorem vz {α:Type} {gt:D->DS->Option DS} {f:DS->List (D×D)->Option (DS×List (D×D))} (enc:α->D) (W:Nat->DS->List (D×D)->Prop) (xs:List α):∀ (k:Nat) {δ:DS} {kds:List (D×D)},W k δ kds->
  (∀ i x δ kds,xs[i]?=some x->W (k + i) δ kds->∃ dZ r,gt (enc x) δ=some dZ /\ f dZ kds=some r /\ W (k + i + 1) r.1 r.2)->∃ r,xx gt f (xs.map enc) δ kds=some r /\ W (k + xs.length) r.1 r.2:=by
 induction xs with
 | nil=>intro k δ kds h _; exact ⟨(δ,kds),rfl,h⟩
 | cons x xs ih=>
   intro k δ kds h hs
   obtain ⟨dZ,r,e1,e2,h2⟩:=hs 0 x δ kds rfl h
   obtain ⟨r2,e3,h3⟩:=ih (k + 1) h2 fun i y δ kds e w=>by
    have:=hs (i + 1) y δ kds (by simpa using e) (by rw [show k + (i + 1)=k + 1 + i by omega]; exact w)
    rw [show k + (i + 1) + 1=k + 1 + i + 1 by omega] at this
    exact this
   refine ⟨r2,?_,by rw [List.length_cons,show k + (xs.length + 1)=k + 1 + xs.length by omega]; exact h3⟩
   rw [List.map_cons,xx,e1,Option.bind_some,e2,Option.bind_some]
   exact e3
theorem tz (X:Int×Int->D) (c:Int×Int):∀ es:List (Int×Int),bD (es.map fun e=>(dC e,X e)) [.inl c.1,.inl c.2]=if c∈es then some (X c) else none:=fun es=>by
 induction es with
 | nil=>rfl
 | cons e es ih=>
   rw [List.map_cons]
   by_cases h:e=c
   ·subst h
    rw [cI (p:=(dC e,X e)) rfl,if_pos List.mem_cons_self]
   ·have hk:¬ keyOf (dC e)=some ([.inl c.1,.inl c.2]:List Key):=fun z=>by
     have z:some ([.inl e.1,.inl e.2]:List Key)=some [.inl c.1,.inl c.2]:=z
     have:=tj.mp (Option.some.inj z)
     exact h (Prod.ext this.1 this.2)
    rw [cJ (p:=(dC e,X e)) hk,ih]
    by_cases m:c∈es
    ·rw [if_pos m,if_pos (List.mem_cons_of_mem _ m)]
    ·rw [if_neg m,if_neg (by simp only [List.mem_cons,not_or]; exact ⟨fun z=>h z.symm,m⟩)]
def gr {α:Type} (e:Int×Int) (rs:List (List Bool)) (fs:List α):List α:=((rs.zip fs).filter fun q=>decide (go (0,0) q.1=e)).map (·.2)
theorem Kr {α β:Type} (f:α->β) (e:Int×Int):∀ (rs:List (List Bool)) (fs:List α),gr e rs (fs.map f)=(gr e rs fs).map f:=fun rs=>by
 induction rs with
 | nil=>intro fs; simp [gr]
 | cons r rs ih=>
   intro fs
   cases fs with
   | nil=>simp [gr]
   | cons x fs=>
     have:=ih fs
     unfold gr at this ⊢
     rw [List.map_cons,List.zip_cons_cons,List.zip_cons_cons,List.filter_cons,List.filter_cons]
     split
     ·rw [List.map_cons,List.map_cons,List.map_cons,this]
     ·exact this
theorem D6 {α:Type} (e:Int×Int) (rs:List (List Bool)) (fs:List α):(gr e rs fs).length<=rs.length:=by
 unfold gr
 rw [List.length_map]
 refine Nat.le_trans (List.length_filter_le _ _) ?_
 rw [List.length_zip]
 exact Nat.min_le_left _ _
theorem Gz {α:Type} (e:Int×Int) {rs:List (List Bool)} {fs:List α} {j:Nat} {u:List Bool} {x:α} (h1:rs[j]?=some u) (h2:fs[j]?=some x):gr e (rs.take (j + 1)) (fs.take (j + 1))=gr e (rs.take j) (fs.take j) ++ if go (0,0) u=e then [x] else []:=by
 have l1:=(List.getElem?_eq_some_iff.mp h1).1
 have l2:=(List.getElem?_eq_some_iff.mp h2).1
 have t1:rs.take (j + 1)=rs.take j ++ [u]:=by rw [List.take_add_one,h1]; rfl
 have t2:fs.take (j + 1)=fs.take j ++ [x]:=by rw [List.take_add_one,h2]; rfl
 unfold gr
 rw [t1,t2,List.zip_append (by rw [List.length_take,List.length_take]; omega),List.filter_append,List.map_append]
 congr 1
 show (List.filter _ [(u,x)]).map _=_
 by_cases z:go (0,0) u=e
 ·rw [List.filter_cons_of_pos (by exact decide_eq_true z),if_pos z]; rfl
 ·rw [List.filter_cons_of_neg (by rw [decide_eq_false z]; exact Bool.false_ne_true),if_neg z]; rfl
theorem GA {gk ge:DS->Option D} {δ:DS} {kds:List (D×D)} {c:Int×Int} {d:D} {ds:List D} (h1:gk δ=some (dC c)) (h2:ge δ=some d) (h3:bD kds [.inl c.1,.inl c.2]=some (.list ds)) (h4:ds.length < 100000):
  rF gk ge δ kds=some (δ,kds.map fun p=>if keyOf p.1=some ([.inl c.1,.inl c.2]:List Key) then (p.1,.list (ds ++ [d])) else p):=by
 unfold rF
 rw [h1,h2,Option.bind_some,Option.bind_some]
 show ((some ([.inl c.1,.inl c.2]:List Key))).bind _=_
 rw [Option.bind_some,h3,Option.bind_some]
 exact if_pos h4
theorem A6 {i:Nat} {f1 f2:DS->List (D×D)->Option (DS×List (D×D))} {gl:DS->Option (List D)} {δ:DS} {r1 r2:DS×List (D×D)} {l:List D} (h0:af i δ=some (.dict [])) (h1:f1 (δ.set i none) []=some r1) (h2:f2 r1.1 r1.2=some r2) (h3:gl (r2.1.set i (some (.dict r2.2)))=some l):
  nZ i f1 f2 gl δ=some (.rt (.list l)):=by
 unfold nZ
 rw [h0,Option.bind_some,if_pos (show P5 (.dict [])=true from rfl),h1,Option.bind_some,h2,Option.bind_some,h3]
 rfl
theorem vA {i:Nat} {g:DS->Option D} {δ:DS} {l:List D} (h:g δ=some (.list l)):mM i g δ=some (.nx (δ.set i (some (.list l)))):=by unfold mM; rw [h]; rfl
theorem D7 {i:Nat} {g:DS->Option D} {δ:DS} {c:Str} (h:g δ=some (mB c)):mM i g δ=some (.rt (mB c)):=by unfold mM; rw [h]; rfl
theorem pP {p:List (List Int)} (hp:Pl p) (hl:p.length<=24) (fG:∀ r∈p,r.length<=25) (ds:List D) (hT:4000 < (T p (0,0)).length):c7 [bj p,.list ds]=some (mB "TooMany"):=by
 rw [mS]
 have vr:=kX hp hl fG
 rw [if_pos hT] at vr
 have e:jG [some (bj p),some (.list ds),none,none,none,none,none,none]=some (.rt (mB "TooMany")):=l5 (D7 (call_of (cons_of rfl rfl) rfl vr))
 rw [e]; rfl
theorem pQ {p:List (List Int)} (hp:Pl p) (hl:p.length<=24) (fG:∀ r∈p,r.length<=25) {ds:List D} (hT:(T p (0,0)).length<=4000) (hd:ds.length≠(T p (0,0)).length):c7 [bj p,.list ds]=some (mB "NoTelling"):=by
 rw [mS]
 have vr:=kX hp hl fG
 rw [if_neg (by omega)] at vr
 have Kd:(bT [] (T p (0,0))).length=(T p (0,0)).length:=by unfold bT; rw [List.length_map]
 have e:jG [some (bj p),some (.list ds),none,none,none,none,none,none]=some (.rt (mB "NoTelling")):=by
  refine b8 [some (bj p),some (.list ds),some (.list (bT [] (T p (0,0)))),none,none,none,none,none] (vA (call_of (cons_of rfl rfl) rfl vr)) (l5 ?_)
  exact hZ true (cB (aw (iL (cons_of rfl rfl) (il _)) (iL (cons_of rfl rfl) (il _)) ((jD _ _).trans (by rw [Kd,decide_eq_false (show ¬ ((ds.length:Nat):Int)=((T p (0,0)).length:Nat) by omega)]; rfl)))) (fun _=>rfl) fun z=>nomatch z
 rw [e]; rfl
theorem A7 {p:List (List Int)} (hp:Pl p) (hl:p.length<=24) (fG:∀ r∈p,r.length<=25) {ds:List D} (hT:(T p (0,0)).length<=4000) (hd:ds.length=(T p (0,0)).length):c7 [bj p,.list ds]=some (.list ((aF p).map fun e=>.list (gr e (T p (0,0)) ds))):=by
 rw [mS]
 refine br ?_
 have vr:=kX hp hl fG
 rw [if_neg (by omega)] at vr
 have Kd:(bT [] (T p (0,0))).length=(T p (0,0)).length:=by unfold bT; rw [List.length_map]
 have Qf:=me (p:=p) hl fG
 have K3:=zF hp
 refine aX [some (bj p),some (.list ds),some (.list (bT [] (T p (0,0)))),none,none,none,none,none] (vA (call_of (cons_of rfl rfl) rfl vr)) ?_
 refine kL (cB (aw (iL (cons_of rfl rfl) (il _)) (iL (cons_of rfl rfl) (il _)) ((jD _ _).trans (by rw [hd,Kd,decide_eq_true rfl]; rfl)))) ?_
 refine aX [some (bj p),some (.list ds),some (.list (bT [] (T p (0,0)))),some (.list ((aF p).map dC)),none,none,none,none] (be (bS (dE (cons_of rfl rfl) rfl (DM (p:=p) hl fG)))) ?_
 refine aX [some (bj p),some (.list ds),some (.list (bT [] (T p (0,0)))),some (.list ((aF p).map dC)),some (.dict []),none,none,none] rfl ?_
 obtain ⟨r1,e1,a5,VA,wa⟩:=vz (gt:=aE 5) (f:=zm (af 5)) dC (fun i δ kds=>∃ a,δ=[some (bj p),some (.list ds),some (.list (bT [] (T p (0,0)))),some (.list ((aF p).map dC)),none,a,none,none] /\ kds=((aF p).take i).map fun e=>(dC e,.list [])) (aF p) 0
  (δ:=[some (bj p),some (.list ds),some (.list (bT [] (T p (0,0)))),some (.list ((aF p).map dC)),none,none,none,none]) (kds:=[]) ⟨none,rfl,rfl⟩ (by
   rintro i c δ kds hi ⟨a,rfl,rfl⟩
   rw [Nat.zero_add]
   have FE:=(List.getElem?_eq_some_iff.mp hi).1
   have ht:(aF p).take (i + 1)=(aF p).take i ++ [c]:=by rw [List.take_add_one,hi]; rfl
   have hc:c∉(aF p).take i:=fun z=>by
    have:=(List.take_sublist (i + 1) (aF p)).nodup K3
    rw [ht,List.nodup_append] at this
    exact this.2.2 c z c (List.mem_singleton.mpr rfl) rfl
   refine ⟨_,([some (bj p),some (.list ds),some (.list (bT [] (T p (0,0)))),some (.list ((aF p).map dC)),none,some (dC c),none,none],((aF p).take (i + 1)).map fun e=>(dC e,.list [])),rfl,?_,_,rfl,rfl⟩
   show (if _ /\ _ then some _ else none)=_
   rw [if_pos]
   ·rw [ht,List.map_append]; rfl
   ·refine ⟨by rw [List.length_map,List.length_take]; omega,?_⟩
    exact (tz (fun _=>.list []) c _).trans (if_neg hc))
 rw [Nat.zero_add,List.take_length] at wa
 have hz:FI (af 2) (af 1) [some (bj p),some (.list ds),some (.list (bT [] (T p (0,0)))),some (.list ((aF p).map dC)),none,a5,none,none]=some (((T p (0,0)).zip ds).map fun q=>.tuple [.str (tx q.1),q.2]):=by
  show some (CM (bT [] (T p (0,0))) ds)=_
  unfold CM bT
  rw [List.zipWith_map_left,List.zip,List.map_zipWith]
  rfl
 obtain ⟨r2,e2,b5,b6,b7,Cm,yM⟩:=vz (gt:=fU 2 (bJ (aE 6) (bJ (aE 7) gK))) (f:=rF (aC fL 2 (aa (af 0) (aa (af 6) ah))) (af 7)) (fun q:List Bool×D=>PyData.tuple [.str (tx q.1),q.2])
  (fun j δ kds=>∃ a b c,δ=[some (bj p),some (.list ds),some (.list (bT [] (T p (0,0)))),some (.list ((aF p).map dC)),none,a,b,c] /\ kds=(aF p).map fun e=>(dC e,.list (gr e ((T p (0,0)).take j) (ds.take j)))) ((T p (0,0)).zip ds) 0
  (δ:=r1.1) (kds:=r1.2) ⟨a5,none,none,VA,by rw [wa]; rfl⟩ (by
   rintro j ⟨u,d⟩ δ kds hj ⟨a,b,c,rfl,rfl⟩
   rw [Nat.zero_add]
   rw [List.getElem?_zip_eq_some] at hj
   obtain ⟨j1,j2⟩:=hj
   have hu:u∈T p (0,0):=List.mem_of_getElem? j1
   have hm:=row_end hu
   have hk:=tz (fun e=>.list (gr e ((T p (0,0)).take j) (ds.take j))) (go (0,0) u) (aF p)
   rw [if_pos hm] at hk
   have hg:(gr (go (0,0) u) ((T p (0,0)).take j) (ds.take j)).length < 100000:=by
    have:=D6 (go (0,0) u) ((T p (0,0)).take j) (ds.take j)
    rw [List.length_take] at this
    omega
   have ee:aC fL 2 (aa (af 0) (aa (af 6) ah)) [some (bj p),some (.list ds),some (.list (bT [] (T p (0,0)))),some (.list ((aF p).map dC)),none,a,some (.str (tx u)),some d]=some (dC (go (0,0) u)):=call_of (cons_of rfl (cons_of rfl rfl)) rfl (D5 hu)
   refine ⟨[some (bj p),some (.list ds),some (.list (bT [] (T p (0,0)))),some (.list ((aF p).map dC)),none,a,some (.str (tx u)),some d],([some (bj p),some (.list ds),some (.list (bT [] (T p (0,0)))),some (.list ((aF p).map dC)),none,a,some (.str (tx u)),some d],(aF p).map fun e=>(dC e,.list (gr e ((T p (0,0)).take (j + 1)) (ds.take (j + 1))))),rfl,(GA ee rfl hk hg).trans ?_,_,_,_,rfl,rfl⟩
   rw [List.map_map]
   congr 2
   refine List.map_congr_left fun e _=>?_
   show (if keyOf (dC e)=some ([.inl (go (0,0) u).1,.inl (go (0,0) u).2]:List Key) then (dC e,PyData.list (gr (go (0,0) u) ((T p (0,0)).take j) (ds.take j) ++ [d])) else (dC e,PyData.list (gr e ((T p (0,0)).take j) (ds.take j))))=(dC e,PyData.list (gr e ((T p (0,0)).take (j + 1)) (ds.take (j + 1))))
   rw [Gz e j1 j2]
   by_cases z:go (0,0) u=e
   ·rw [if_pos (by rw [z]; rfl),if_pos z,z]
   ·rw [if_neg fun y=>z (by
     have y:some ([.inl e.1,.inl e.2]:List Key)=some [.inl (go (0,0) u).1,.inl (go (0,0) u).2]:=y
     have:=tj.mp (Option.some.inj y)
     exact (Prod.ext this.1 this.2).symm),if_neg z,List.append_nil])
 rw [Nat.zero_add,List.length_zip,hd,Nat.min_self,List.take_length,<- hd,List.take_length] at yM
 have e3:cO (aY (af 3)) [4] (jm (af 1) (af 0)) [some (bj p),some (.list ds),some (.list (bT [] (T p (0,0)))),some (.list ((aF p).map dC)),some (.dict ((aF p).map fun e=>(dC e,.list (gr e (T p (0,0)) ds)))),b5,b6,b7]=some (((aF p).map fun e=>gr e (T p (0,0)) ds).map PyData.list):=
  g9 dC PyData.list (fun e=>gr e (T p (0,0)) ds) (aF p) rfl (by omega) fun c hc=>(n8 (c:=c) rfl rfl (by cases aF p <;> rfl)).trans ((tz (fun e=>.list (gr e (T p (0,0)) ds)) c (aF p)).trans (if_pos hc))
 rw [List.map_map] at e3
 have Bm:AU (FI (af 2) (af 1)) (fU 2 (bJ (aE 6) (bJ (aE 7) gK))) (rF (aC fL 2 (aa (af 0) (aa (af 6) ah))) (af 7)) r1.1 r1.2=some r2:=by
  unfold AU
  rw [VA] at e2 ⊢
  rw [hz,Option.bind_some]
  exact e2
 refine .mk (d:=.list ((aF p).map fun e=>.list (gr e (T p (0,0)) ds))) ?_ rfl
 have Ab:AU (aY (af 3)) (aE 5) (zm (af 5)) [some (bj p),some (.list ds),some (.list (bT [] (T p (0,0)))),some (.list ((aF p).map dC)),none,none,none,none] []=some r1:=e1
 have e4:=A6 (i:=4) (δ:=[some (bj p),some (.list ds),some (.list (bT [] (T p (0,0)))),some (.list ((aF p).map dC)),some (.dict []),none,none,none]) rfl Ab Bm (by rw [Cm,yM]; exact e3)
 rw [e4]
 rfl
theorem zI (a b:Ad) (ha:Sz 4000 a) (hb:Sz 4000 b):kP [dF a,dF b]=some (dF (xB a b)):=by
 rw [J8]
 refine br ?_
 obtain ⟨x,y,hg,e1,e2,hc⟩:=rG (t:=a.2) (b:=b.2) hb.ne
 have vg:=DN a.2 b.2 hb.bot
 have Kf:bt (Int.gcd a.2 b.2:Int)<=4000:=iI (bK ⟨y,by rw [Int.mul_comm]; exact e2⟩ hb.ne) hb.bot
 generalize (Int.gcd a.2 b.2:Int)=g at *
 have ex:a.2 / g=x:=by rw [e1]; exact Int.mul_ediv_cancel _ (by omega)
 have ey:b.2 / g=y:=by rw [e2]; exact Int.mul_ediv_cancel _ (by omega)
 have hx:bt x<=4000:=iI (bK ⟨g,e1⟩ ha.ne) ha.bot
 have hy:bt y<=4000:=iI (bK ⟨g,e2⟩ hb.ne) hb.bot
 have vf:=oh (a.1 * y + b.1 * x) g (by omega) Kf
 have ok:=cU (t:=a.1 * y + b.1 * x) (show g≠0 by omega)
 have hq:=(F6 ha.low.2 hb.low.2 ha.low.1 hb.low.1 hg e1 e2 hc ok).qm (Int.mul_ne_zero ha.ne hb.ne)
 have c2:=iI (ok.bot_le (by omega)) Kf
 refine aX [some (dF a),some (dF b),some (.int g),none,none,none] (be (call_of (cons_of (aw rfl rfl (i6 a)) (cons_of (aw rfl rfl (i6 b)) rfl)) rfl vg)) ?_
 refine aX [some (dF a),some (dF b),some (.int g),some (.int x),none,none] (be ((aw (aw rfl rfl (i6 a)) rfl (rH hg (cc Kf (by decide)))).trans (by rw [ex]))) ?_
 refine aX [some (dF a),some (dF b),some (.int g),some (.int x),some (.int y),none] (be ((aw (aw rfl rfl (i6 b)) rfl (rH hg (cc Kf (by decide)))).trans (by rw [ey]))) ?_
 refine aX [some (dF a),some (dF b),some (.int g),some (.int x),some (.int y),some (dF (cj (a.1 * y + b.1 * x) g))]
  (be (call_of (cons_of (aw (aw (aw rfl rfl (kN a)) rfl (gM (pC ha.top hy))) (aw (aw rfl rfl (kN b)) rfl (gM (pC hb.top hx))) rfl) (cons_of rfl rfl)) rfl vf)) ?_
 refine ret (dF (xB a b)) ?_ (.mk rfl rfl)
 unfold xB
 rw [<- hq]
 exact og (aw rfl rfl (kN _)) (aw (aw rfl rfl (gM (pC hx hy))) (aw rfl rfl (i6 _)) (gM (pC (pB hx hy) c2)))
theorem Ks {m:Nat} {q:Ad} (h:Sz m q):Sz m (-q.1,q.2):=⟨⟨h.low.1,by show Int.gcd (-q.1) q.2=1; rw [Int.neg_gcd]; exact h.low.2⟩,J3 h.top,h.bot⟩
theorem D8 (a b:Ad) (ha:Sz 4000 a) (hb:Sz 4000 b):l9 [dF a,dF b]=some (dF (xB a (-b.1,b.2))):=by
 rw [Ga]
 refine br (ret _ (call_of (cons_of rfl (cons_of (og (x:=.int (-b.1)) (y:=.int b.2) rfl rfl) rfl)) rfl (zI a (-b.1,b.2) ha (Ks hb))) (.mk rfl rfl))
theorem GB (a b:Ad) (ha:Sz 4000 a) (hb:Sz 4000 b) (h0:b.1≠0):iq [dF a,dF b]=some (dF (u6 a (cj b.2 b.1))):=by
 rw [J9]
 refine br (ret _ (call_of (cons_of rfl (cons_of (call_of (cons_of rfl (cons_of rfl rfl)) rfl (oh b.2 b.1 h0 hb.top)) rfl)) rfl (DO a _ ha (zA h0 hb.bot hb.top))) (.mk rfl rfl))
theorem Qg {B:Int} (hB:B≠0):(0,1)=cj 0 B:=ny.qm (n:=0) (d:=1) ⟨by decide,by decide,by omega⟩ hB
theorem Kt {a c B:Int} (hB:B≠0):xB (cj a B) (cj c B)=cj (a + c) B:=by
 rw [zp hB hB]
 refine lZ (Int.mul_ne_zero hB hB) hB ?_
 grind
theorem M3 {a B:Int} (hB:B≠0):(-(cj a B).1,(cj a B).2)=cj (-a) B:=by
 have h:=cU (t:=a) hB
 refine ny.qm ⟨h.pos,by rw [Int.neg_gcd]; exact h.Dl,?_⟩ hB
 have:=h.eq
 grind
theorem VB {a B:Int} (hB:B≠0):((cj a B).1 ^ 2,(cj a B).2 ^ 2)=cj (a * a) (B * B):=by
 have h:=cU (t:=a) hB
 generalize (cj a B).1=n at *
 generalize (cj a B).2=d at *
 have hc:Nat.Coprime n.natAbs d.natAbs:=h.Dl
 refine ny.qm ⟨?_,?_,?_⟩ (Int.mul_ne_zero hB hB)
 ·have:=h.pos
  have:0 < d ^ 2:=Int.pow_pos (by omega)
  omega
 ·show Nat.gcd (n ^ 2).natAbs (d ^ 2).natAbs=1
  rw [Int.natAbs_pow,Int.natAbs_pow]
  exact Nat.Coprime.pow 2 2 hc
 ·have:=h.eq
  have e:n ^ 2 * (B * B)=(n * B) * (n * B):=by grind
  rw [e,this]; grind
theorem D9 {t B:Int} {m:Nat} (hB:B≠0) (h1:bt t<=m) (h2:bt B<=m) (hm:m<=4000):Sz 4000 (cj t B):=(zA hB h1 h2).up hm
def Tn (m:Nat) (ts:List Int):Prop:=∀ t∈ts,t.natAbs<=m
theorem lT (a:List Int) (x:Int):b4 (a ++ [x])=b4 a + x:=by
 induction a with
 | nil=>show x + 0=0 + x; omega
 | cons y a ih=>show y + b4 (a ++ [x])=y + b4 a + x; omega
theorem tB {m:Nat}:∀ {ts:List Int},Tn m ts->(b4 ts).natAbs<=ts.length * m:=fun {ts}=>by
 induction ts with
 | nil=>intro _; exact Nat.zero_le _
 | cons t ts ih=>
   intro h
   have h1:=h t List.mem_cons_self
   have h2:=ih fun x hx=>h x (List.mem_cons_of_mem _ hx)
   have e:b4 (t :: ts)=t + b4 ts:=rfl
   rw [e,List.length_cons,Nat.succ_mul]
   have:=Int.natAbs_add_le t (b4 ts)
   omega
theorem ja {B:Int} {ts:List Int} {m:Nat} (hB:B≠0) (hb:bt B<=300) (ht:Tn m ts) (hl:ts.length<=4000) (hm:m < 2 ^ 80):bP [.list (ts.map fun t=>dF (cj t B))]=some (dF (cj (b4 ts) B)):=by
 rw [sW]
 refine br ?_
 have sz:∀ k,bt (b4 (ts.take k))<=100:=fun k=>by
  refine iH ?_
  have h1:=tB (m:=m) (ts:=ts.take k) fun t h=>ht t (List.mem_of_mem_take h)
  have h2:(ts.take k).length<=4000:=by rw [List.length_take]; omega
  have h3:(ts.take k).length * m<=4000 * m:=Nat.mul_le_mul_right _ h2
  have h4:4000 * m < 4000 * 2 ^ 80:=Nat.mul_lt_mul_of_pos_left hm (by decide)
  have h5:4000 * 2 ^ 80 < 2 ^ 100:=by decide
  omega
 refine aX [some (.list (ts.map fun t=>dF (cj t B))),some (dF (cj 0 B)),none] (by rw [<- Qg hB]; rfl) ?_
 refine i5 (fun t=>dF (cj t B)) ts (fun k δ=>∃ a,δ=[some (.list (ts.map fun t=>dF (cj t B))),some (dF (cj (b4 (ts.take k)) B)),a]) rfl ⟨none,rfl⟩ ?_ ?_
 ·rintro k t δ hk ⟨a,rfl⟩
  have UB:ts.take (k + 1)=ts.take k ++ [t]:=by rw [List.take_add_one,hk]; rfl
  have XG:bt t<=100:=by
   have:=ht t (List.mem_of_getElem? hk)
   exact iH (by have:(2:Nat) ^ 80 < 2 ^ 100:=(by decide); omega)
  refine ⟨_,[some (.list (ts.map fun t=>dF (cj t B))),some (dF (cj (b4 (ts.take (k + 1))) B)),some (dF (cj t B))],rfl,?_,_,rfl⟩
  refine (be (call_of (cons_of rfl (cons_of rfl rfl)) rfl (zI _ _ (D9 hB (cc (sz k) (show 100<=300 by decide)) hb (by decide)) (D9 hB (cc XG (show 100<=300 by decide)) hb (by decide))))).trans ?_
  rw [Kt hB,UB,lT]
  rfl
 ·rintro δ' ⟨a,rfl⟩
  rw [List.take_length]
  exact ret _ rfl (.mk rfl rfl)
theorem vB {S B:Int} {n:Nat} (hB:B≠0) (h1:bt S<=600) (h2:bt B<=600) (hn:0 < n) (Ve:n<=4000):iq [dF (cj S B),.tuple [.int (n:Nat),.int 1]]=some (dF (cj S ((n:Int) * B))):=by
 have hz:((n:Nat):Int)≠0:=by omega
 have sz:Sz 4000 ((n:Int),1):=⟨⟨by show (1:Int)<=1; decide,by show Nat.gcd (n:Int).natAbs 1=1; exact Nat.gcd_one_right _⟩,cc (iH (m:=12) (by show (n:Int).natAbs < 2 ^ 12; omega)) (by decide),cc (iH (m:=1) (by show (1:Int).natAbs < 2 ^ 1; decide)) (by decide)⟩
 have e:=GB (cj S B) ((n:Int),1) (D9 hB h1 h2 (by decide)) sz hz
 rw [F7 hB hz,Int.mul_one,Int.mul_comm B] at e
 exact e
theorem nb {n:Nat} {B:Int} (hn:0 < n) (hB:B≠0):(n:Int) * B≠0:=Int.mul_ne_zero (by omega) hB
theorem Nn {B:Int} (h1:1<=B) (h2:B<=1000000000000):bt B<=40:=iH (by have:(2:Nat) ^ 40=1099511627776:=(by decide); omega)
structure mZ (ts:List Int) (B:Int):Prop where
 pos:0 < ts.length
 BX:ts.length<=4000
 sm:Tn 1000000 ts
 lo:1<=B
 hi:B<=1000000000000
theorem mZ.ne {ts:List Int} {B:Int} (h:mZ ts B):B≠0:=by have:=h.lo; omega
theorem mZ.sum {ts:List Int} {B:Int} (h:mZ ts B):bt (b4 ts)<=40:=by
 refine iH ?_
 have h1:=tB h.sm
 have h2:ts.length * 1000000<=4000 * 1000000:=Nat.mul_le_mul_right _ h.BX
 have:(2:Nat) ^ 40=1099511627776:=by decide
 omega
theorem mZ.VC {ts:List Int} {B:Int} (h:mZ ts B):Tn 1000000000000 (ts.map fun t=>t * t):=fun x hx=>by
 obtain ⟨t,ht,rfl⟩:=List.mem_map.mp hx
 have:=h.sm t ht
 rw [Int.natAbs_mul]
 exact Nat.mul_le_mul this this
theorem mZ.sq {ts:List Int} {B:Int} (h:mZ ts B):bt (b4 (ts.map fun t=>t * t))<=60:=by
 refine iH ?_
 have h1:=tB h.VC
 rw [List.length_map] at h1
 have h2:ts.length * 1000000000000<=4000 * 1000000000000:=Nat.mul_le_mul_right _ h.BX
 have:(2:Nat) ^ 60=1152921504606846976:=by decide
 omega
theorem mZ.bb {ts:List Int} {B:Int} (h:mZ ts B):bt (B * B)<=80:=pB (Nn h.lo h.hi) (Nn h.lo h.hi)
theorem A8 {ts:List Int} {B:Int} (h:mZ ts B) {δ:DS} (h0:af 0 δ=some (.list (ts.map fun t=>dF (cj t B)))):aC iq 2 (aa (aC bP 1 (aa (af 0) ah)) (aa (aM (aa (eM dj (aa (af 0) ah)) (aa (gC (.int (1))) ah))) ah)) δ=some (dF (cj (b4 ts) ((ts.length:Int) * B))):=by
 have e1:=ja h.ne (cc (Nn h.lo h.hi) (by decide)) h.sm h.BX (by decide)
 have e2:aM (aa (eM dj (aa (af 0) ah)) (aa (gC (.int (1))) ah)) δ=some (.tuple [.int (ts.length:Nat),.int 1]):=vv (cons_of (iL (cons_of h0 rfl) (by rw [il,List.length_map])) (cons_of rfl rfl)) (by show 2<=100000; decide)
 exact call_of (cons_of (call_of (cons_of h0 rfl) rfl e1) (cons_of e2 rfl)) rfl (vB h.ne (cc h.sum (by decide)) (cc (Nn h.lo h.hi) (by decide)) h.pos h.BX)
theorem A9 {ts:List Int} {B:Int} (h:mZ ts B):gD [.list (ts.map fun t=>dF (cj t B))]=some (dF (cj ((ts.length:Int) * b4 (ts.map fun t=>t * t) - b4 ts * b4 ts) ((ts.length:Int) * B * B))):=by
 rw [A3]
 refine br ?_
 have hB:=h.ne
 have La:B * B≠0:=Int.mul_ne_zero hB hB
 have Qh:=Nn h.lo h.hi
 have ep:cO (aY (af 0)) [] (aC hJ 2 (aa (af 0) (aa (gC (.int (2))) ah))) [some (.list (ts.map fun t=>dF (cj t B))),none]=some ((ts.map fun t=>t * t).map fun t=>dF (cj t (B * B))):=by
  refine g9 (fun t=>dF (cj t B)) (fun t=>dF (cj t (B * B))) (fun t=>t * t) ts rfl (by have:=h.BX; omega) fun t ht=>?_
  have hs:=zA (t:=t) (m:=300) hB (cc (iH (m:=20) (by have:=h.sm t ht; have:(2:Nat) ^ 20=1048576:=(by decide); omega)) (by decide)) (cc Qh (by decide))
  exact call_of (cons_of rfl (cons_of rfl rfl)) rfl ((vn (cj t B) 2 (cc hs.top (by decide)) (cc hs.bot (by decide)) (by decide)).trans (by rw [VB hB]))
 have e1:=ja La (cc h.bb (by decide)) h.VC (by rw [List.length_map]; exact h.BX) (by decide)
 refine aX [some (.list (ts.map fun t=>dF (cj t B))),some (dF (cj (b4 (ts.map fun t=>t * t)) (B * B)))] (be (call_of (cons_of (bS ep) rfl) rfl e1)) ?_
 have e2:=ja hB (cc Qh (by decide)) h.sm h.BX (by decide)
 have hs:=zA (t:=b4 ts) (m:=300) hB (cc h.sum (by decide)) (cc Qh (by decide))
 have e3:hJ [dF (cj (b4 ts) B),.int 2]=some (dF (cj (b4 ts * b4 ts) (B * B))):=(vn (cj (b4 ts) B) 2 (cc hs.top (by decide)) (cc hs.bot (by decide)) (by decide)).trans (by rw [VB hB])
 have e4:=vB (S:=b4 ts * b4 ts) (n:=ts.length) La (cc (pB h.sum h.sum) (by decide)) (cc h.bb (by decide)) h.pos h.BX
 have e5:aM (aa (eM dj (aa (af 0) ah)) (aa (gC (.int (1))) ah)) [some (.list (ts.map fun t=>dF (cj t B))),some (dF (cj (b4 (ts.map fun t=>t * t)) (B * B)))]=some (.tuple [.int (ts.length:Nat),.int 1]):=vv (cons_of (iL (cons_of rfl rfl) (by rw [il,List.length_map])) (cons_of rfl rfl)) (by show 2<=100000; decide)
 have hN:=nb h.pos La
 have bN:bt ((ts.length:Int) * (B * B))<=300:=cc (pB (iH (m:=12) (by have:=h.BX; show ((ts.length:Nat):Int).natAbs < 2 ^ 12; omega)) h.bb) (by decide)
 have e6:=D8 (cj (b4 (ts.map fun t=>t * t)) (B * B)) (cj (b4 ts * b4 ts) ((ts.length:Int) * (B * B))) (D9 La (cc h.sq (show 60<=300 by decide)) (cc h.bb (by decide)) (by decide)) (D9 hN (cc (pB h.sum h.sum) (show 80<=300 by decide)) bN (by decide))
 rw [M3 hN,zp La hN] at e6
 refine ret _ (call_of (cons_of rfl (cons_of (call_of (cons_of (call_of (cons_of (call_of (cons_of rfl rfl) rfl e2) (cons_of rfl rfl)) rfl e3) (cons_of e5 rfl)) rfl e4) rfl)) rfl e6) (.mk rfl ?_)
 congr 1
 refine lZ (Int.mul_ne_zero La hN) (by rw [Int.mul_assoc]; exact hN) ?_
 generalize (ts.length:Int)=n
 generalize b4 (ts.map fun t=>t * t)=Q
 generalize b4 ts=S
 grind
theorem Ea {α:Type} (e:Int×Int):∀ (rs:List (List Bool)) (fs:List α),fs.length=rs.length->(gr e rs fs).length=rs.countP fun w=>decide (go (0,0) w=e):=fun rs=>by
 induction rs with
 | nil=>intro fs _; rfl
 | cons r rs ih=>
   intro fs h
   cases fs with
   | nil=>cases h
   | cons x fs=>
     have:=ih fs (by simpa using h)
     unfold gr at this ⊢
     rw [List.zip_cons_cons,List.filter_cons,List.countP_cons]
     by_cases z:go (0,0) r=e
     ·rw [if_pos (decide_eq_true z),if_pos (decide_eq_true z),List.map_cons,List.length_cons,this]
     ·rw [if_neg (by simpa using z),if_neg (by simpa using z),this]; rfl
theorem Ku {α:Type} {e:Int×Int} {rs:List (List Bool)} {fs:List α} {x:α} (h:x∈gr e rs fs):x∈fs:=by
 obtain ⟨⟨a,b⟩,h1,rfl⟩:=List.mem_map.mp h
 exact (List.of_mem_zip (List.mem_filter.mp h1).1).2
section
variable {p:List (List Int)} {ts:List Int}
theorem Eb (hp:Pl p) (hT:(T p (0,0)).length<=4000) (hn:ts.length=(T p (0,0)).length) (ht:Tn 1000000 ts) {e:Int×Int} (he:e∈aF p):mZ (gr e (T p (0,0)) ts) 1:=by
 refine ⟨?_,Nat.le_trans (D6 e _ ts) hT,fun t h=>ht t (Ku h),by decide,by decide⟩
 have h1:=Gv hp he
 have h2:=tw hp he
 have h3:=Ea e (T p (0,0)) ts hn
 unfold ph at h1
 rw [h3]
 apply Nat.pos_of_ne_zero
 intro z
 rw [z] at h1
 exact h2 h1
theorem mf {g ge:DS->Option D} {ix:List Nat} {δ:DS} {c:Str} (h:g δ=some (mB c)):kK g ix ge δ=some (.rt (mB c)):=by unfold kK; rw [h]; rfl
theorem nD {α:Type} {f:D->Option D} (enc:α->D):∀ (l:List α),(∀ a∈l,∃ d,f (enc a)=some d)->∃ xs,lM f (l.map enc)=some xs /\ xs.length=l.length
 | [],_=>⟨[],rfl,rfl⟩
 | a :: l,h=>by
   obtain ⟨d,e⟩:=h a List.mem_cons_self
   obtain ⟨xs,e2,e3⟩:=nD enc l fun b hb=>h b (List.mem_cons_of_mem _ hb)
   refine ⟨d :: xs,?_,by rw [List.length_cons,List.length_cons,e3]⟩
   rw [List.map_cons,lM,e,e2]; rfl
theorem vC {α:Type} {g ge:DS->Option D} {ix:List Nat} {δ:DS} (enc:α->D) (l:List α) (h:g δ=some (.list (l.map enc))) (hl:l.length<=100000) (he:∀ a∈l,∃ d,ge (some (enc a) :: c5 ix δ)=some d):∃ xs,kK g ix ge δ=some (.rt (.list xs)) /\ xs.length=l.length:=by
 obtain ⟨xs,e1,e2⟩:=nD (f:=fun d=>ge (some d :: c5 ix δ)) enc l he
 refine ⟨xs,?_,e2⟩
 unfold kK
 rw [h,Option.bind_some]
 show (if (l.map enc).length<=100000 then _ else _)=_
 rw [if_pos (by rw [List.length_map]; exact hl),e1]; rfl
variable (hp:Pl p) (hl:p.length<=24) (fG:∀ r∈p,r.length<=25)
include hp hl fG
theorem GC (w:Bool):∀ R:List D->Option D,(R=dG \/ R=cf)->
  (4000 < (T p (0,0)).length->R [bj p,.list (ts.map fun t=>dF (cj t 1))]=some (mB "TooMany")) /\
  ((T p (0,0)).length<=4000->ts.length≠(T p (0,0)).length->R [bj p,.list (ts.map fun t=>dF (cj t 1))]=some (mB "NoTelling")) /\
  ((T p (0,0)).length<=4000->ts.length=(T p (0,0)).length->Tn 1000000 ts->∃ xs,R [bj p,.list (ts.map fun t=>dF (cj t 1))]=some (.list xs) /\ xs.length=(aF p).length):=by
 intro R hR
 have Qf:=me (p:=p) hl fG
 have key:(T p (0,0)).length<=4000->ts.length=(T p (0,0)).length->c7 [bj p,.list (ts.map fun t=>dF (cj t 1))]=some (.list ((aF p).map fun e=>.list ((gr e (T p (0,0)) ts).map fun t=>dF (cj t 1)))):=fun h1 h2=>by
  have:=A7 hp hl fG (ds:=ts.map fun t=>dF (cj t 1)) h1 (by rw [List.length_map]; exact h2)
  rw [this]
  congr 2
  exact List.map_congr_left fun e _=>by rw [Kr]
 rcases hR with rfl | rfl
 ·refine ⟨fun h=>?_,fun h1 h2=>?_,fun h1 h2 h3=>?_⟩
  ·rw [jH,show fk [some (bj p),some (.list (ts.map fun t=>dF (cj t 1)))]=_ from mf (call_of (cons_of rfl (cons_of rfl rfl)) rfl (pP hp hl fG _ h))]; rfl
  ·rw [jH,show fk [some (bj p),some (.list (ts.map fun t=>dF (cj t 1)))]=_ from mf (call_of (cons_of rfl (cons_of rfl rfl)) rfl (pQ hp hl fG h1 (by rw [List.length_map]; exact h2)))]; rfl
  ·obtain ⟨xs,e1,e2⟩:=vC (g:=aC c7 2 (aa (af 0) (aa (af 1) ah))) (ge:=aC iq 2 (aa (aC bP 1 (aa (af 0) ah)) (aa (aM (aa (eM dj (aa (af 0) ah)) (aa (gC (.int (1))) ah))) ah))) (ix:=[]) (δ:=[some (bj p),some (.list (ts.map fun t=>dF (cj t 1)))])
    (fun e=>.list ((gr e (T p (0,0)) ts).map fun t=>dF (cj t 1))) (aF p) (call_of (cons_of rfl (cons_of rfl rfl)) rfl (key h1 h2)) (by omega) fun e he=>⟨_,A8 (Eb hp h1 h2 h3 he) rfl⟩
   rw [jH,show fk [some (bj p),some (.list (ts.map fun t=>dF (cj t 1)))]=_ from e1]
   exact ⟨xs,rfl,e2⟩
 ·refine ⟨fun h=>?_,fun h1 h2=>?_,fun h1 h2 h3=>?_⟩
  ·rw [gO,show c9 [some (bj p),some (.list (ts.map fun t=>dF (cj t 1)))]=_ from mf (call_of (cons_of rfl (cons_of rfl rfl)) rfl (pP hp hl fG _ h))]; rfl
  ·rw [gO,show c9 [some (bj p),some (.list (ts.map fun t=>dF (cj t 1)))]=_ from mf (call_of (cons_of rfl (cons_of rfl rfl)) rfl (pQ hp hl fG h1 (by rw [List.length_map]; exact h2)))]; rfl
  ·obtain ⟨xs,e1,e2⟩:=vC (g:=aC c7 2 (aa (af 0) (aa (af 1) ah))) (ge:=aC gD 1 (aa (af 0) ah)) (ix:=[]) (δ:=[some (bj p),some (.list (ts.map fun t=>dF (cj t 1)))])
    (fun e=>.list ((gr e (T p (0,0)) ts).map fun t=>dF (cj t 1))) (aF p) (call_of (cons_of rfl (cons_of rfl rfl)) rfl (key h1 h2)) (by omega) fun e he=>⟨_,call_of (cons_of rfl rfl) rfl (A9 (Eb hp h1 h2 h3 he))⟩
   rw [gO,show c9 [some (bj p),some (.list (ts.map fun t=>dF (cj t 1)))]=_ from e1]
   exact ⟨xs,rfl,e2⟩
end
theorem Ec {i:Nat} {g:DS->Option D} {δ:DS} {c:Str} (h:g δ=some (mB c)):km i g δ=some (.rt (mB c)):=by unfold km; rw [h]; rfl
theorem Kv {i:Nat} {g:DS->Option D} {δ:DS} {d:D} (h:g δ=some d) (hd:qB d=none):km i g δ=some (.nx (δ.set i (some d))):=by
 unfold km; rw [h]; show some (C7 d _)=_; rw [rD hd]
theorem Ed {gb:DS->Option Res} {hand:Str->Option D} {δ:DS} {c:Str} {d:D} (h:gb δ=some (.rt (mB c))) (hh:hand c=some d):xr gb hand δ=some (.rt d):=by
 unfold xr; rw [h]; show (hand c).bind _=_; rw [hh]; rfl
theorem Kw {gb:DS->Option Res} {hand:Str->Option D} {δ δ':DS} (h:gb δ=some (.nx δ')):xr gb hand δ=some (.nx δ'):=by unfold xr; rw [h]; rfl
def kY (p:List (List Int)) (n:Nat):D:=if 4000 < (T p (0,0)).length then .str "TooMany" else if n≠(T p (0,0)).length then .str "NoTelling" else .int ((aF p).length:Nat)
section
variable {p:List (List Int)} (hp:Pl p) (hl:p.length<=24) (fG:∀ r∈p,r.length<=25)
include hp hl fG
theorem vD {ts:List Int} (ht:Tn 1000000 ts) (w:Nat):eD [bj p,.list (ts.map fun t=>dF (cj t 1)),.int (w:Nat)]=some (kY p ts.length):=by
 rw [ve]
 have m1:("TooMany":Str)∈eO:=.head _
 have m2:("NoTelling":Str)∈eO:=.tail _ (.head _)
 have hx:∀ {x:Str},x∈eO->i3 eO (fun c=>.str c) x=some (.str x):=fun hx=>by unfold i3; rw [if_pos hx]
 obtain ⟨bd,Kx⟩:∃ bd,bd=iy (gB (g2 qY (af 2) (gC (.int (0))))) (km 3 (aC dG 2 (aa (af 0) (aa (af 1) ah)))) (km 3 (aC cf 2 (aa (af 0) (aa (af 1) ah)))):=⟨_,rfl⟩
 have hb:∃ R:List D->Option D,(R=dG \/ R=cf) /\ bd [some (bj p),some (.list (ts.map fun t=>dF (cj t 1))),some (.int (w:Nat)),none,none]=km 3 (aC R 2 (aa (af 0) (aa (af 1) ah))) [some (bj p),some (.list (ts.map fun t=>dF (cj t 1))),some (.int (w:Nat)),none,none]:=by
  have hc:gB (g2 qY (af 2) (gC (.int (0)))) [some (bj p),some (.list (ts.map fun t=>dF (cj t 1))),some (.int (w:Nat)),none,none]=some (decide ((w:Int)=0)):=cB (aw rfl rfl (mO _ _))
  by_cases z:(w:Int)=0
  ·exact ⟨dG,.inl rfl,by rw [Kx]; exact hZ true (hc.trans (by rw [decide_eq_true z])) (fun _=>rfl) fun z=>nomatch z⟩
  ·exact ⟨cf,.inr rfl,by rw [Kx]; exact hZ false (hc.trans (by rw [decide_eq_false z])) (fun z=>nomatch z) fun _=>rfl⟩
 obtain ⟨R,hR,eb⟩:=hb
 obtain ⟨v1,v2,v3⟩:=GC (ts:=ts) hp hl fG true R hR
 have eg:hV [some (bj p),some (.list (ts.map fun t=>dF (cj t 1))),some (.int (w:Nat)),none,none]=aA (xr bd (i3 eO (fun c=>.str c))) (bZ (eM dj (aa (af 3) ah))) [some (bj p),some (.list (ts.map fun t=>dF (cj t 1))),some (.int (w:Nat)),none,none]:=by rw [Kx]
 rw [eg]
 unfold kY
 by_cases h1:4000 < (T p (0,0)).length
 ·rw [if_pos h1,l5 (Ed (eb.trans (Ec (call_of (cons_of rfl (cons_of rfl rfl)) rfl (v1 h1)))) (hx m1))]; rfl
 ·rw [if_neg h1]
  by_cases h2:ts.length=(T p (0,0)).length
  ·obtain ⟨xs,e1,e2⟩:=v3 (by omega) h2 ht
   rw [if_neg (fun z=>z h2)]
   refine br (aX [some (bj p),some (.list (ts.map fun t=>dF (cj t 1))),some (.int (w:Nat)),some (.list xs),none] (Kw (eb.trans (Kv (call_of (cons_of rfl (cons_of rfl rfl)) rfl e1) rfl))) ?_)
   exact ret _ (iL (cons_of rfl rfl) ((il _).trans (by rw [e2]))) (.mk rfl rfl)
  ·rw [if_pos h2,l5 (Ed (eb.trans (Ec (call_of (cons_of rfl (cons_of rfl rfl)) rfl (v2 (by omega) h2)))) (hx m2))]; rfl
end
theorem zJ {t:D->DS->Option DS} {b:DS->Option Res} (W:DS->Prop):∀ (ds:List D) {δ:DS},W δ->(∀ d∈ds,∀ δ,W δ->∃ dZ δ',t d δ=some dZ /\ (b dZ=some (.nx δ') \/ b dZ=some (.ct δ')) /\ W δ')->∃ δ',ke t b ds δ=some (.nx δ') /\ W δ'
 | [],δ,h,_=>⟨δ,rfl,h⟩
 | d :: ds,δ,h,hs=>by
   obtain ⟨dZ,δ',e1,e2,w⟩:=hs d List.mem_cons_self δ h
   obtain ⟨J5,e3,w2⟩:=zJ W ds w fun x hx=>hs x (List.mem_cons_of_mem _ hx)
   refine ⟨J5,?_,w2⟩
   rw [ke,e1,Option.bind_some]
   rcases e2 with e2 | e2 <;> rw [e2] <;> exact e3
theorem Ee {a b:DS->Option Bool} {δ:DS} (h1:∃ x,a δ=some x) (h2:∃ y,b δ=some y):∃ z,lG a b δ=some z:=by
 obtain ⟨x,e1⟩:=h1; obtain ⟨y,e2⟩:=h2
 unfold lG; rw [e1]
 cases x with
 | true=>exact ⟨y,e2⟩
 | false=>exact ⟨false,rfl⟩
theorem Np {a b:DS->Option Bool} {δ:DS} (h1:∃ x,a δ=some x) (h2:∃ y,b δ=some y):∃ z,Bo a b δ=some z:=by
 obtain ⟨x,e1⟩:=h1; obtain ⟨y,e2⟩:=h2
 unfold Bo; rw [e1]
 cases x with
 | true=>exact ⟨true,rfl⟩
 | false=>exact ⟨y,e2⟩
theorem Ef (c:Int×Int):SeqAt.shaped (dC c)=true:=by
 unfold dC
 simp [SeqAt.shaped,PyData.canLay0,PyData.canLayAll0,PyData.depth,PyData.depthAll]
theorem GD (neg:Bool) (c:Int×Int) (es:List (Int×Int)):∃ b,xi neg (dC c) (.tuple (es.map dC))=some (.bool b):=by
 unfold xi
 simp only
 rw [if_pos (by rw [Ef,Bool.true_and,List.all_map]; simp [Function.comp,Ef])]
 exact ⟨_,rfl⟩
theorem Eg {α β:Type} (enc:α->β) (l:List α) (h:0 < l.length) (m:Int):∃ a∈l,rP (l.map enc) (m % (l.length:Int))=some (enc a):=by
 have h0:=Int.emod_nonneg m (show (l.length:Int)≠0 by omega)
 have h1:=Int.emod_lt_of_pos m (show 0 < (l.length:Int) by omega)
 obtain ⟨k,hk⟩:∃ k:Nat,m % (l.length:Int)=(k:Nat):=⟨(m % (l.length:Int)).toNat,by omega⟩
 have N8:k < l.length:=by omega
 refine ⟨l[k],List.getElem_mem N8,?_⟩
 rw [hk]
 exact nS (by rw [List.getElem?_map,List.getElem?_eq_getElem N8]; rfl)
theorem Ky (p:List (List Int)) (n:Nat):wL (kY p n) (kY p n)=some (.bool false):=by
 have k1:PyData.strOk "TooMany"=true:=by decide +kernel
 have k2:PyData.strOk "NoTelling"=true:=by decide +kernel
 unfold kY
 split
 ·exact Dr (c:=true) (tq k1 k1 (beq_self_eq_true _))
 ·split
  ·exact Dr (c:=true) (tq k2 k2 (beq_self_eq_true _))
  ·exact (jD _ _).trans (by rw [decide_eq_true rfl]; rfl)
theorem Qi (a:Int):cj a 1=(a,1):=(ny.qm (n:=a) (d:=1) (t:=a) (b:=1) ⟨by decide,by exact Int.gcd_one_right a,rfl⟩ (by decide)).symm
theorem Eh (ns:List Int) (h:ns.length<=63):rK [.list (ns.map .int)]=some (.bool true):=by
 rw [M6]
 refine br ?_
 have cl:∀ {i:Nat} {δ:DS},aC d8 2 (aa (af 0) (aa (gC (.int (i:Nat))) ah)) (some (.list (ns.map .int)) :: δ)=some (.int (ns.getD i 0)):=fun {i δ}=>call_of (cons_of rfl (cons_of rfl rfl)) rfl (xP ns i)
 obtain ⟨m,Qb,Js,em⟩:=xU (ns.getD 1 0)
 obtain ⟨_,ep,p,rfl,hp,js,fG⟩:=xT (ns.getD 0 0) m Qb (by omega)
 have hl:p.length<=24:=by omega
 have Qf:=me hl fG
 obtain ⟨kds,ew,hd⟩:=xY hp hl fG
 obtain ⟨M,hM⟩:∃ M:Nat,M=(T p (0,0)).length:=⟨_,rfl⟩
 obtain ⟨S,eS⟩:∃ S:D,S=.list (ns.map .int):=⟨_,rfl⟩
 obtain ⟨L,eL⟩:∃ L:D,L=.list ((aF p).map dC):=⟨_,rfl⟩
 refine aX [some (.list (ns.map .int)),some (bj p),none,none,none,none,none,none,none,none,none] (be (call_of (cons_of (cl (i:=0)) (cons_of (call_of (cons_of (cl (i:=1)) rfl) rfl em) rfl)) rfl ep)) ?_
 refine aX [some (.list (ns.map .int)),some (bj p),some (.dict kds),none,none,none,none,none,none,none,none] (be (call_of (cons_of rfl rfl) rfl ew)) ?_
 refine aX [some (.list (ns.map .int)),some (bj p),some (.dict kds),some (.list ((aF p).map dC)),none,none,none,none,none,none,none] (be (bS (dE (cons_of rfl rfl) rfl (vp hp hl fG)))) ?_
 have ec:cO (aY (af 3)) [2] (jm (af 1) (af 0)) [some (.list (ns.map .int)),some (bj p),some (.dict kds),some (.list ((aF p).map dC)),none,none,none,none,none,none,none]=some (((aF p).map fun c=>eT p c.1 c.2).map .int):=
  g9 dC PyData.int (fun c=>eT p c.1 c.2) (aF p) rfl (by omega) fun c hc=>(n8 (c:=c) rfl rfl hd.fn).trans (Dt.get hd (tw hp hc))
 refine aX [some (.list (ns.map .int)),some (bj p),some (.dict kds),some (.list ((aF p).map dC)),some (.int (M:Nat)),none,none,none,none,none,none] (be ((D3 (bS ec)).trans (by rw [zH,vw hp,hM]))) ?_
 obtain ⟨cs,XH,ZR,_⟩:=F8 PyData.int ns 2 5
 have K3:dB (aU (tY jy (aU (cN (aa (gC (.int (0))) (aa (gC (.int (4))) ah)))) (aU (wN (af 0) (gI (gC (.int (2)))) (gI (gC (.int (5)))))))) [some (.list (ns.map .int)),some (bj p),some (.dict kds),some (.list ((aF p).map dC)),some (.int (M:Nat)),none,none,none,none,none,none]=some (([0,4] ++ cs).zipIdx.map fun x:Int×Nat=>PyData.tuple [.int (x.2:Nat),.int x.1]):=by
  have k1:wN (af 0) (gI (gC (.int (2)))) (gI (gC (.int (5)))) [some (.list (ns.map .int)),some (bj p),some (.dict kds),some (.list ((aF p).map dC)),some (.int (M:Nat)),none,none,none,none,none,none]=some (cs.map .int):=by
   show some (cutD (ns.map .int) (some 2) (some 5))=_
   rw [show ((2:Int))=((2:Nat):Int) from rfl,show ((5:Int))=((5:Nat):Int) from rfl,XH]
  have k2:=Dx (show aU (cN (aa (gC (.int (0))) (aa (gC (.int (4))) ah))) [some (.list (ns.map .int)),some (bj p),some (.dict kds),some (.list ((aF p).map dC)),some (.int (M:Nat)),none,none,none,none,none,none]=some (.list (([0,4]:List Int).map .int)) from rfl) (bS k1) (by rw [List.length_map,List.length_map]; show 2 + cs.length<=100000; omega)
  rw [<- List.map_append] at k2
  exact Gp (bS k2) (DV PyData.int _)
 rw [<- eS,<- eL] at K3 ⊢
 refine i5 (fun x:Int×Nat=>PyData.tuple [.int (x.2:Nat),.int x.1]) (([0,4] ++ cs).zipIdx) (fun _ δ=>∃ a b c d e f,δ=[some S,some (bj p),some (.dict kds),some L,some (.int (M:Nat)),a,b,c,d,e,f]) K3 ⟨_,_,_,_,_,_,rfl⟩ ?_ ?_
 ·rintro i ⟨x,j⟩ δ hi ⟨a,b,c,d,e,f,rfl⟩
  obtain ⟨z,hz,ez⟩:=Eg PyData.int [0,1,-1,3,0,-3,2] (Nat.succ_pos _) x
  have Pn: -3<=z /\ z<=3:=by simp at hz; omega
  obtain ⟨v,hv⟩:∃ v:Int,v=(if (4000:Int) < (M:Int) then (4000:Int) else (M:Int)):=⟨_,rfl⟩
  have ZS:v=4000 \/ v=(M:Nat):=by rw [hv]; split <;> simp
  have ZT:v<=4000 /\ 0<=v /\ (4000 < (M:Int) \/ v=(M:Nat)):=by rw [hv]; split <;> omega
  obtain ⟨N,hN⟩:∃ N:Nat,(if v + z > 0 then v + z else 0)=(N:Nat):=⟨(if v + z > 0 then v + z else 0).toNat,by split <;> omega⟩
  have ZU:N<=4003:=by
   have:(N:Int)<=4003:=by rw [<- hN]; split <;> omega
   omega
  obtain ⟨t,ht⟩:∃ t:Int,t=x / 7 % 5:=⟨_,rfl⟩
  have h0:=Int.emod_nonneg (x / 7) (show (5:Int)≠0 by decide)
  have h1:=Int.emod_lt_of_pos (x / 7) (show (0:Int) < 5 by decide)
  obtain ⟨ts,Qj⟩:∃ ts:List Int,ts=List.replicate N t:=⟨_,rfl⟩
  have XI:Tn 1000000 ts:=fun y hy=>by
   rw [Qj] at hy
   rw [(List.mem_replicate.mp hy).2]
   omega
  have VD:ts.length=N:=by rw [Qj,List.length_replicate]
  obtain ⟨Q,hQ⟩:∃ Q:D,Q=.list (ts.map fun t=>dF (cj t 1)):=⟨_,rfl⟩
  have eq:aU (cO (eQ (aa (af 7) ah)) [6] (aM (aa (g2 fb (g2 kB (af 1) (gC (.int (7)))) (gC (.int (5)))) (aa (gC (.int (1))) ah)))) [some S,some (bj p),some (.dict kds),some L,some (.int (M:Nat)),some (.int (j:Nat)),some (.int x),some (.int (N:Nat)),d,e,f]=some Q:=by
   rw [hQ]
   refine bS ((g9 (fun k:Nat=>PyData.int (0 + k)) dF (fun _=>((t,1):Ad)) (List.range N) (iJ (cons_of rfl rfl) (by omega)) (by rw [List.length_range]; omega) fun k _=>?_).trans ?_)
   ·rw [ht]
    exact og (aw (aw rfl rfl (dd 7 (by decide) (by decide))) rfl (fW (by decide))) rfl
   ·congr 1
    rw [Qj,List.map_replicate,Qi,List.map_map,List.eq_replicate_iff]
    refine ⟨by rw [List.length_map,List.length_range],fun b hb=>?_⟩
    obtain ⟨_,_,rfl⟩:=List.mem_map.mp hb
    rfl
  have lq:∀ {g:DS->Option D} {δ:DS},g δ=some Q->eM dj (aa g ah) δ=some (.int (N:Nat)):=fun hg=>iL (cons_of hg rfl) (by rw [hQ,il,List.length_map,VD])
  have va:=fun w:Nat=>vD hp hl fG XI w
  rw [VD,<- hQ] at va
  obtain ⟨d1,w5⟩:∃ d1:D,d1=if N≠M then .str "NoTelling" else .int ((aF p).length:Nat):=⟨_,rfl⟩
  have ed:kY p N=if 4000 < M then .str "TooMany" else d1:=by unfold kY; rw [w5,hM]
  have i1:iy (gB (g2 wL (af 7) (af 4))) (aR 9 (gC (.str "NoTelling"))) bW [some S,some (bj p),some (.dict kds),some L,some (.int (M:Nat)),some (.int (j:Nat)),some (.int x),some (.int (N:Nat)),some Q,some (.int ((aF p).length:Nat)),f]=some (.nx [some S,some (bj p),some (.dict kds),some L,some (.int (M:Nat)),some (.int (j:Nat)),some (.int x),some (.int (N:Nat)),some Q,some d1,f]):=by
   by_cases q:N=M
   ·rw [w5,if_neg (fun z=>z q)]
    exact u9 (cB (aw rfl rfl ((jD _ _).trans (by rw [decide_eq_true (show ((N:Nat):Int)=(M:Nat) by omega)]; rfl))))
   ·rw [w5,if_pos q]
    exact hZ true (cB (aw rfl rfl ((jD _ _).trans (by rw [decide_eq_false (show ¬ ((N:Nat):Int)=(M:Nat) by omega)]; rfl)))) (fun _=>rfl) fun z=>nomatch z
  have i2:iy (gB (g2 tZ (af 4) (gC (.int (4000))))) (aR 9 (gC (.str "TooMany"))) bW [some S,some (bj p),some (.dict kds),some L,some (.int (M:Nat)),some (.int (j:Nat)),some (.int x),some (.int (N:Nat)),some Q,some d1,f]=some (.nx [some S,some (bj p),some (.dict kds),some L,some (.int (M:Nat)),some (.int (j:Nat)),some (.int x),some (.int (N:Nat)),some Q,some (kY p N),f]):=by
   have hc:gB (g2 tZ (af 4) (gC (.int (4000)))) [some S,some (bj p),some (.dict kds),some L,some (.int (M:Nat)),some (.int (j:Nat)),some (.int x),some (.int (N:Nat)),some Q,some d1,f]=some (decide ((4000:Int) < (M:Nat))):=cB (aw rfl rfl rfl)
   by_cases q:4000 < M
   ·rw [ed,if_pos q]
    exact hZ true (hc.trans (by rw [decide_eq_true (show (4000:Int) < (M:Nat) by omega)])) (fun _=>rfl) fun z=>nomatch z
   ·rw [ed,if_neg q]
    exact u9 (hc.trans (by rw [decide_eq_false (show ¬ (4000:Int) < (M:Nat) by omega)]))
  obtain ⟨bd,Kx⟩:∃ bd,bd=(aA (iy (lG (gB (iW v9 v9 (gC (.int (500))) (af 4) (gC (.int (4001))))) (Bo (gB (g2 (xi true) (aM (aa (af 5) (aa (af 10) ah))) (aM (aa (aM (aa (gC (.int (0))) (aa (gC (.int (0))) ah))) (aa (aM (aa (gC (.int (2))) (aa (gC (.int (1))) ah))) ah))))) (lG (gB (g2 qY (af 5) (gC (.int (2))))) (gB (g2 qY (af 7) (af 4)))))) (fun δ=>some (.ct δ)) bW)
  (iy (Bo (gB (g2 wL (aC eD 3 (aa (af 1) (aa (af 8) (aa (af 10) ah)))) (af 9))) (gB (g2 wL (eM dj (aa (af 8) ah)) (af 7)))) (bZ (gC (.bool false))) bW)):=⟨_,rfl⟩
  obtain ⟨J5,e2,f2,rfl⟩:=zJ (t:=aE 10) (b:=bd) (fun δ=>∃ f,δ=[some S,some (bj p),some (.dict kds),some L,some (.int (M:Nat)),some (.int (j:Nat)),some (.int x),some (.int (N:Nat)),some Q,some (kY p N),f]) ((List.range 2).map fun k:Nat=>PyData.int (0 + k))
   (δ:=[some S,some (bj p),some (.dict kds),some L,some (.int (M:Nat)),some (.int (j:Nat)),some (.int x),some (.int (N:Nat)),some Q,some (kY p N),f]) ⟨_,rfl⟩ (by
    rintro d0 N7 _ ⟨f,rfl⟩
    obtain ⟨w,hw,rfl⟩:=List.mem_map.mp N7
    rw [Int.zero_add]
    obtain ⟨b0,XJ⟩:=GD true ((j:Int),(w:Int)) [(0,0),(2,1)]
    have hC:∃ y,lG (gB (iW v9 v9 (gC (.int (500))) (af 4) (gC (.int (4001))))) (Bo (gB (g2 (xi true) (aM (aa (af 5) (aa (af 10) ah))) (aM (aa (aM (aa (gC (.int (0))) (aa (gC (.int (0))) ah))) (aa (aM (aa (gC (.int (2))) (aa (gC (.int (1))) ah))) ah))))) (lG (gB (g2 qY (af 5) (gC (.int (2))))) (gB (g2 qY (af 7) (af 4))))) [some S,some (bj p),some (.dict kds),some L,some (.int (M:Nat)),some (.int (j:Nat)),some (.int x),some (.int (N:Nat)),some Q,some (kY p N),some (.int (w:Nat))]=some y:=
     Ee ⟨_,cB (zy rfl rfl rfl rfl rfl)⟩ (Np ⟨b0,cB (aw (og rfl rfl) rfl XJ)⟩ (Ee ⟨_,cB (aw rfl rfl (mO _ _))⟩ ⟨_,cB (aw rfl rfl (mO _ _))⟩))
    obtain ⟨y,hy⟩:=hC
    refine ⟨[some S,some (bj p),some (.dict kds),some L,some (.int (M:Nat)),some (.int (j:Nat)),some (.int x),some (.int (N:Nat)),some Q,some (kY p N),some (.int (w:Nat))],[some S,some (bj p),some (.dict kds),some L,some (.int (M:Nat)),some (.int (j:Nat)),some (.int x),some (.int (N:Nat)),some Q,some (kY p N),some (.int (w:Nat))],rfl,?_,_,rfl⟩
    cases y with
    | true=>
      right
      rw [Kx]
      unfold aA
      rw [hZ (r:=some (.ct [some S,some (bj p),some (.dict kds),some L,some (.int (M:Nat)),some (.int (j:Nat)),some (.int x),some (.int (N:Nat)),some Q,some (kY p N),some (.int (w:Nat))])) true hy (fun _=>rfl) fun z=>nomatch z]
      rfl
    | false=>
      left
      rw [Kx]
      refine b8 _ (u9 hy) (u9 (HX (cB (aw (call_of (cons_of rfl (cons_of rfl (cons_of rfl rfl))) rfl (va w)) rfl (Ky p N))) (cB (aw (lq rfl) rfl ((jD _ _).trans (by rw [decide_eq_true rfl]; rfl))))))) 
  refine ⟨_,[some S,some (bj p),some (.dict kds),some L,some (.int (M:Nat)),some (.int (j:Nat)),some (.int x),some (.int (N:Nat)),some Q,some (kY p N),f2],rfl,?_,_,_,_,_,_,_,rfl⟩
  refine b8 [some S,some (bj p),some (.dict kds),some L,some (.int (M:Nat)),some (.int (j:Nat)),some (.int x),some (.int (N:Nat)),d,e,f] (be (iL (cons_of rfl (cons_of (aw (iL (cons_of rfl (cons_of rfl rfl)) (show yT [.int (M:Nat),.int 4000]=some (.int v) by rw [hv]; rfl)) (aw (bS rfl) (aw rfl rfl (fW (by decide))) ez) (Ge _ _)) rfl)) (show some (PyData.int (if v + z > 0 then v + z else 0))=_ by rw [hN]))) ?_
  refine b8 [some S,some (bj p),some (.dict kds),some L,some (.int (M:Nat)),some (.int (j:Nat)),some (.int x),some (.int (N:Nat)),some Q,e,f] (be eq) ?_
  refine b8 [some S,some (bj p),some (.dict kds),some L,some (.int (M:Nat)),some (.int (j:Nat)),some (.int x),some (.int (N:Nat)),some Q,some (.int ((aF p).length:Nat)),f] (be (iL (cons_of rfl rfl) (by rw [eL,il,List.length_map]))) ?_
  refine b8 _ i1 (b8 _ i2 ?_)
  rw [<- Kx]
  exact DP (iJ (n:=2) (cons_of rfl rfl) (by decide)) e2
 ·rintro δ' ⟨a,b,c,d,e,f,rfl⟩
  exact ret (.bool true) rfl (.mk rfl rfl)
abbrev kZ:Stmt:=top 21
theorem tD:aD ["top","bottom","shared"] ["top","bottom"] (ao kZ):=⟨rfl,rfl,rfl,by decide +kernel,rfl,by decide +kernel,by decide +kernel⟩
abbrev k7:Stmt:=top 22
theorem mh:aD ["one","other","shared","one_part","other_part","rest"] ["one","other"] (ao k7):=⟨rfl,rfl,rfl,by decide +kernel,rfl,by decide +kernel,by decide +kernel⟩
abbrev jb:Stmt:=top 23
theorem Ei:aD ["one","other"] ["one","other"] (ao jb):=⟨rfl,rfl,rfl,by decide +kernel,rfl,by decide +kernel,by decide +kernel⟩
abbrev jc:Stmt:=top 24
theorem pR:aD ["one","other","left","right"] ["one","other"] (ao jc):=⟨rfl,rfl,rfl,by decide +kernel,rfl,by decide +kernel,by decide +kernel⟩
abbrev k8:Stmt:=top 25
theorem GF:aD ["one","other"] ["one","other"] (ao k8):=⟨rfl,rfl,rfl,by decide +kernel,rfl,by decide +kernel,by decide +kernel⟩
abbrev jd:Stmt:=top 26
theorem iN:aD ["one","many","top","bottom","turn"] ["one","many"] (ao jd):=⟨rfl,rfl,rfl,by decide +kernel,rfl,by decide +kernel,by decide +kernel⟩
abbrev bB:Stmt:=top 27
theorem aV:aD ["one","other","rest","pair"] ["one","other"] (ao bB):=⟨rfl,rfl,rfl,by decide +kernel,rfl,by decide +kernel,by decide +kernel⟩
abbrev k9:Stmt:=top 28
theorem h8:aD ["one","other","cut","upper","lower","many","rest"] ["one","other"] (ao k9):=⟨rfl,rfl,rfl,by decide +kernel,rfl,by decide +kernel,by decide +kernel⟩
abbrev fu:Stmt:=top 30
theorem pS:aD ["plan","count","draws"] ["plan","count"] (ao fu):=⟨rfl,rfl,rfl,by decide +kernel,rfl,by decide +kernel,by decide +kernel⟩
abbrev eE:Stmt:=top 31
theorem je:aD ["plan","told","draws","place"] ["plan"] (ao eE):=⟨rfl,rfl,rfl,by decide +kernel,rfl,by decide +kernel,by decide +kernel⟩
abbrev jM:Stmt:=top 32
theorem GH:aD ["plan"] ["plan"] (ao jM):=⟨rfl,rfl,rfl,by decide +kernel,rfl,by decide +kernel,by decide +kernel⟩
abbrev dH:Stmt:=top 33
theorem ia:aD ["plan","told","draws","place"] ["plan"] (ao dH):=⟨rfl,rfl,rfl,by decide +kernel,rfl,by decide +kernel,by decide +kernel⟩
abbrev fN:Stmt:=top 34
theorem Ba:aD ["place"] ["place"] (ao fN):=⟨rfl,rfl,rfl,by decide +kernel,rfl,by decide +kernel,by decide +kernel⟩
abbrev jf:Stmt:=top 35
theorem Ej:aD ["count","sign"] ["count","sign"] (ao jf):=⟨rfl,rfl,rfl,by decide +kernel,rfl,by decide +kernel,by decide +kernel⟩
abbrev dJ:Stmt:=top 38
theorem eV:aD ["plan","beginning","ways","count","many","led"] ["plan","beginning"] (ao dJ):=⟨rfl,rfl,rfl,by decide +kernel,rfl,by decide +kernel,by decide +kernel⟩
abbrev eF:Stmt:=top 41
theorem pT:aD ["plan","ways"] ["plan"] (ao eF):=⟨rfl,rfl,rfl,by decide +kernel,rfl,by decide +kernel,by decide +kernel⟩
abbrev gR:Stmt:=top 42
theorem j9:aD ["plan","row","count","sign"] ["plan","row"] (ao gR):=⟨rfl,rfl,rfl,by decide +kernel,rfl,by decide +kernel,by decide +kernel⟩
abbrev cA:Stmt:=top 43
theorem gS:aD ["plan","row","count","told"] ["plan","row","count"] (ao cA):=⟨rfl,rfl,rfl,by decide +kernel,rfl,by decide +kernel,by decide +kernel⟩
abbrev dM:Stmt:=top 45
theorem vE:aD ["plan","telling"] ["plan","telling"] (ao dM):=⟨rfl,rfl,rfl,by decide +kernel,rfl,by decide +kernel,by decide +kernel⟩
abbrev cg:Stmt:=top 46
theorem pU:aD ["plan","telling"] ["plan","telling"] (ao cg):=⟨rfl,rfl,rfl,by decide +kernel,rfl,by decide +kernel,by decide +kernel⟩
abbrev eG:Stmt:=top 47
theorem pV:aD ["group","squares"] ["group"] (ao eG):=⟨rfl,rfl,rfl,by decide +kernel,rfl,by decide +kernel,by decide +kernel⟩
abbrev fO:Stmt:=top 48
theorem fw:aD ["plan","telling","rows","there","groups","end","row","fraction"] ["plan","telling"] (ao fO):=⟨rfl,rfl,rfl,by decide +kernel,rfl,by decide +kernel,by decide +kernel⟩
abbrev cV:Stmt:=top 49
theorem fH:aD ["fractions","total","fraction"] ["fractions"] (ao cV):=⟨rfl,rfl,rfl,by decide +kernel,rfl,by decide +kernel,by decide +kernel⟩
abbrev eh:Stmt:=top 51
theorem vF:aD ["_law_script","_law_k"] ["_law_script","_law_k"] (ao eh):=⟨rfl,rfl,rfl,by decide +kernel,rfl,by decide +kernel,by decide +kernel⟩
abbrev cW:Stmt:=top 52
theorem fI:aD ["_law_cell_here","_law_base","_law_many","_law_row","_law_k"] ["_law_cell_here","_law_base","_law_many"] (ao cW):=⟨rfl,rfl,rfl,by decide +kernel,rfl,by decide +kernel,by decide +kernel⟩
abbrev dN:Stmt:=top 53
theorem gv:aD ["_law_cell_here","_law_base","_law_many","_law_row","_law_k","_law_number"] ["_law_cell_here","_law_base","_law_many"] (ao dN):=⟨rfl,rfl,rfl,by decide +kernel,rfl,by decide +kernel,by decide +kernel⟩
abbrev cX:Stmt:=top 54
theorem bG:aD ["_law_cell_here","_law_most_here","_law_rest","_law_many","_law_digits_here","_law_rows","_law_come","_law_at","_law_row"] ["_law_cell_here","_law_most_here"] (ao cX):=⟨rfl,rfl,rfl,by decide +kernel,rfl,by decide +kernel,by decide +kernel⟩
abbrev el:Stmt:=top 55
theorem vG:aD ["_law_cell_here"] ["_law_cell_here"] (ao el):=⟨rfl,rfl,rfl,by decide +kernel,rfl,by decide +kernel,by decide +kernel⟩
abbrev cY:Stmt:=top 56
theorem eI:aD ["_law_plan_here","_law_found","_law_n","_law_on","_law_come"] ["_law_plan_here"] (ao cY):=⟨rfl,rfl,rfl,by decide +kernel,rfl,by decide +kernel,by decide +kernel⟩
abbrev eu:Stmt:=top 57
theorem dO:aD ["_law_plan_here","_law_ways_here","_law_n","_law_row","_law_bad","_law_here","_law_count"] ["_law_plan_here"] (ao eu):=⟨rfl,rfl,rfl,by decide +kernel,rfl,by decide +kernel,by decide +kernel⟩
abbrev dP:Stmt:=top 58
theorem cP:aD ["_law_e","_law_named","_law_words","_law_some"] ["_law_e"] (ao dP):=⟨rfl,rfl,rfl,by decide +kernel,rfl,by decide +kernel,by decide +kernel⟩
abbrev dQ:Stmt:=top 59
theorem gy:aD ["_law_plan_here","_law_telling","_law_way","_law_found","_law_e"] ["_law_plan_here","_law_telling","_law_way"] (ao dQ):=⟨rfl,rfl,rfl,by decide +kernel,rfl,by decide +kernel,by decide +kernel⟩
abbrev iO:Stmt:=top 60
theorem fA:aD ["_law_script","_law_plan_here","_law_ways_here","_law_last","_law_many","_law_j","_law_cell_here","_law_size","_law_telling","_law_due","_law_way"] ["_law_script"] (ao iO):=⟨rfl,rfl,rfl,by decide +kernel,rfl,by decide +kernel,by decide +kernel⟩
section
variable {P:Program} {w:World} {K:PySem.W.Frag} {mg:Str->Option Value} {base:Heap}
theorem GJ (F:Df K mg "leap" k9 ["one","other"]) (B:Bs mg) (pW:Cn mg "WINDOW" (.int (240))) (yd:Cn mg "SHED" (.int (120))):Dn P w K mg base 1 "leap" ["one","other"] (eK K 2 xD):=
 cS [] Ds F h8 fun f bR A outer s H E hr=>(ar (ax (au (i:=2) h8.nd rfl (Or.inl rfl) (ay eZ iB (PE.sh (yW (ag (pv 0)))) (PE.sh (ai (qV pW))))))
  (ar (ax (au (i:=3) h8.nd rfl (Or.inl rfl) (bh (ae (ay wu aJ (ag (pv 0)) (ag (pv 2))) (ae (ai aj) (ae (ai aj) ak))))))
  (ar (ax (au (i:=4) h8.nd rfl (Or.inl rfl) (bh (ae (ay wu aJ (ag (pv 1)) (ag (pv 2))) (ae (ai aj) (ae (ai aj) ak))))))
  (ar (oV PassesOwn.never (bc (mD hr) kC (PE.sh (ay wu aJ (PE.sh (aT (ag (pv 4)) (PE.sh (ai aj)))) (PE.sh (ai (qV yd))))) (PE.sh (ai aj)) (bQ _)) (ar (ax (au (i:=5) h8.nd rfl (Or.inl rfl) (ay dr aJ (PE.sh (aT (ag (pv 3)) (PE.sh (ai aj)))) (PE.sh (aT (ag (pv 4)) (PE.sh (ai aj)))))))
  (ar (ax (au (i:=6) h8.nd rfl (Or.inl rfl) (bh (ae (ay eZ iB (PE.sh (aT (ag (pv 3)) (PE.sh (ai aj)))) (PE.sh (ay bO aJ (ag (pv 5)) (PE.sh (aT (ag (pv 4)) (PE.sh (ai aj))))))) (ae (ay eZ iB (PE.sh (aT (ag (pv 3)) (PE.sh (ai aj)))) (PE.sh (ay bO aJ (ag (pv 5)) (PE.sh (aT (ag (pv 4)) (PE.sh (ai aj))))))) (ae (ay eZ iB (PE.sh (aT (ag (pv 3)) (PE.sh (ai aj)))) (PE.sh (ay bO aJ (ag (pv 5)) (PE.sh (aT (ag (pv 4)) (PE.sh (ai aj))))))) ak))))))
  (ar (ax (au (i:=3) h8.nd rfl (Or.inl rfl) (aq (pv 4))))
  (av (ax (au (i:=4) h8.nd rfl (Or.inl rfl) (aq (pv 6)))))))))
  (av (bV (bh (ae (aW jr lH rfl B.abs oK (aB (PE.sh (ay bq aZ (PE.sh (ay bO aJ (PE.sh (aT (ag (pv 3)) (PE.sh (ai aj)))) (ag (pv 0)))) (PE.sh (ay bO aJ (PE.sh (aT (ag (pv 3)) (PE.sh (ai aj)))) (ag (pv 1)))))) aN)) (ae (aW jr lH rfl B.abs oK (aB (PE.sh (ay bq aZ (PE.sh (ay bO aJ (PE.sh (aT (ag (pv 4)) (PE.sh (ai aj)))) (ag (pv 0)))) (PE.sh (ay bO aJ (PE.sh (aT (ag (pv 4)) (PE.sh (ai aj)))) (ag (pv 1)))))) aN)) ak)))))))))
theorem kf (F:Df K mg "greatest_divisor" bB ["one","other"]) (B:Bs mg) (ye:Cn mg "LONG" (.int (4000))) (yf:Dn P w K mg base 1 "leap" ["one","other"] (eK K 2 xD)):Dn P w K mg base 2 "greatest_divisor" ["one","other"] (eK K 2 bA):=
 cS [] d7 F aV fun f bR A outer s H E hr=>(ar (ax (au (i:=0) aV.nd rfl (Or.inl rfl) (aW jr lH rfl B.abs oK (aB (ag (pv 0)) aN))))
  (ar (ax (au (i:=1) aV.nd rfl (Or.inl rfl) (aW jr lH rfl B.abs oK (aB (ag (pv 1)) aN))))
  (ar (oV PassesOwn.never (bc (mD hr) kC (ag (pv 1)) (PE.sh (ai aj)) (bQ _)) (ar (ax (au (i:=2) aV.nd rfl (Or.inl rfl) (ay cQ aJ (ag (pv 0)) (ag (pv 1)))))
  (ar (ax (au (i:=0) aV.nd rfl (Or.inl rfl) (aq (pv 1))))
  (ar (ax (au (i:=1) aV.nd rfl (Or.inl rfl) (aq (pv 2))))
  (av (dX (bc ni dw (PE.sh (yW (ag (pv 1)))) (PE.sh (ai (qV ye))) (bQ _)) (ar (ax (au (i:=3) aV.nd rfl (Or.inl rfl) (aS yf hr (by decide) (ae (aq (pv 0)) (ae (aq (pv 1)) ak)))))
  (ar (ax (au (i:=0) aV.nd rfl (Or.inl rfl) (aT (ag (pv 3)) (PE.sh (ai aj)))))
  (av (ax (au (i:=1) aV.nd rfl (Or.inl rfl) (aT (ag (pv 3)) (PE.sh (ai aj)))))))) cH))))))
  (av (bV (aq (pv 0)))))))
theorem GK (F:Df K mg "frac" kZ ["top","bottom"]) (B:Bs mg) (bL:Dn P w K mg base 2 "greatest_divisor" ["one","other"] (eK K 2 bA)):Dn P w K mg base 3 "frac" ["top","bottom"] (eK K 2 ip):=
 cS [] xE F tD fun f bR A outer s H E hr=>(ar (dX (bc (mC hr) imp_eq (ag (pv 1)) (PE.sh (ai aj)) (bQ _)) (av oU) cH)
  (ar (ax (au (i:=2) tD.nd rfl (Or.inl rfl) (aS bL hr (by decide) (ae (aq (pv 0)) (ae (aq (pv 1)) ak)))))
  (ar (dX (bc oz dw (ag (pv 1)) (PE.sh (ai aj)) (bQ _)) (av (ax (au (i:=2) tD.nd rfl (Or.inl rfl) (r9 (ag (pv 2)))))) cH)
  (av (bV (bh (ae (ay dr aJ (ag (pv 0)) (ag (pv 2))) (ae (ay dr aJ (ag (pv 1)) (ag (pv 2))) ak))))))))
theorem GL (F:Df K mg "plus" k7 ["one","other"]) (B:Bs mg) (iu:Dn P w K mg base 3 "frac" ["top","bottom"] (eK K 2 ip)) (bL:Dn P w K mg base 2 "greatest_divisor" ["one","other"] (eK K 2 bA)):Dn P w K mg base 4 "plus" ["one","other"] (eK K 2 kP):=
 cS [] xF F mh fun f bR A outer s H E hr=>(ar (ax (au (i:=2) mh.nd rfl (Or.inl rfl) (aS bL hr (by decide) (ae (aT (ag (pv 0)) (PE.sh (ai aj))) (ae (aT (ag (pv 1)) (PE.sh (ai aj))) ak)))))
  (ar (ax (au (i:=3) mh.nd rfl (Or.inl rfl) (ay dr aJ (PE.sh (aT (ag (pv 0)) (PE.sh (ai aj)))) (ag (pv 2)))))
  (ar (ax (au (i:=4) mh.nd rfl (Or.inl rfl) (ay dr aJ (PE.sh (aT (ag (pv 1)) (PE.sh (ai aj)))) (ag (pv 2)))))
  (ar (ax (au (i:=5) mh.nd rfl (Or.inl rfl) (aS iu hr (by decide) (ae (ay bq aZ (PE.sh (ay bO aJ (PE.sh (aT (ag (pv 0)) (PE.sh (ai aj)))) (ag (pv 4)))) (PE.sh (ay bO aJ (PE.sh (aT (ag (pv 1)) (PE.sh (ai aj)))) (ag (pv 3))))) (ae (aq (pv 2)) ak)))))
  (av (bV (bh (ae (aT (ag (pv 5)) (PE.sh (ai aj))) (ae (ay bO aJ (PE.sh (ay bO aJ (ag (pv 3)) (ag (pv 4)))) (PE.sh (aT (ag (pv 5)) (PE.sh (ai aj))))) ak)))))))))
theorem Ek (F:Df K mg "minus" jb ["one","other"]) (B:Bs mg) (m7:Dn P w K mg base 4 "plus" ["one","other"] (eK K 2 kP)):Dn P w K mg base 5 "minus" ["one","other"] (eK K 2 l9):=
 cS [] sS F Ei fun f bR A outer s H E hr=>(av (bV (aS m7 hr (by decide) (ae (aq (pv 0)) (ae (bh (ae (r9 (PE.sh (aT (ag (pv 1)) (PE.sh (ai aj))))) (ae (aT (ag (pv 1)) (PE.sh (ai aj))) ak))) ak)))))
theorem El (F:Df K mg "times" jc ["one","other"]) (B:Bs mg) (iu:Dn P w K mg base 3 "frac" ["top","bottom"] (eK K 2 ip)):Dn P w K mg base 4 "times" ["one","other"] (eK K 2 ma):=
 cS [] sT F pR fun f bR A outer s H E hr=>(ar (ax (au (i:=2) pR.nd rfl (Or.inl rfl) (aS iu hr (by decide) (ae (aT (ag (pv 0)) (PE.sh (ai aj))) (ae (aT (ag (pv 1)) (PE.sh (ai aj))) ak)))))
  (ar (ax (au (i:=3) pR.nd rfl (Or.inl rfl) (aS iu hr (by decide) (ae (aT (ag (pv 1)) (PE.sh (ai aj))) (ae (aT (ag (pv 0)) (PE.sh (ai aj))) ak)))))
  (av (bV (bh (ae (ay bO aJ (PE.sh (aT (ag (pv 2)) (PE.sh (ai aj)))) (PE.sh (aT (ag (pv 3)) (PE.sh (ai aj))))) (ae (ay bO aJ (PE.sh (aT (ag (pv 2)) (PE.sh (ai aj)))) (PE.sh (aT (ag (pv 3)) (PE.sh (ai aj))))) ak)))))))
theorem GN (F:Df K mg "over" k8 ["one","other"]) (B:Bs mg) (iu:Dn P w K mg base 3 "frac" ["top","bottom"] (eK K 2 ip)) (tF:Dn P w K mg base 4 "times" ["one","other"] (eK K 2 ma)):Dn P w K mg base 5 "over" ["one","other"] (eK K 2 iq):=
 cS [] xG F GF fun f bR A outer s H E hr=>(av (bV (aS tF hr (by decide) (ae (aq (pv 0)) (ae (aS iu hr (by decide) (ae (aT (ag (pv 1)) (PE.sh (ai aj))) (ae (aT (ag (pv 1)) (PE.sh (ai aj))) ak))) ak)))))
theorem Em (F:Df K mg "power" jd ["one","many"]) (B:Bs mg):Dn P w K mg base 1 "power" ["one","many"] (eK K 2 hJ):=
 cS [] sU F iN fun f bR A outer s H E hr=>(ar (ax (au (i:=2) iN.nd rfl (Or.inl rfl) (ai aj)))
  (ar (ax (au (i:=3) iN.nd rfl (Or.inl rfl) (ai aj)))
  (ar (d3 PassesOwn.never rfl (iD B.range (ae (aq (pv 1)) ak)) (aH (aP (i:=4) iN.nd rfl (Or.inl rfl)))
   (ar (ax (au (i:=2) iN.nd rfl (Or.inl rfl) (ay bO aJ (ag (pv 2)) (PE.sh (aT (ag (pv 0)) (PE.sh (ai aj)))))))
  (av (ax (au (i:=3) iN.nd rfl (Or.inl rfl) (ay bO aJ (ag (pv 3)) (PE.sh (aT (ag (pv 0)) (PE.sh (ai aj))))))))))
  (av (bV (bh (ae (aq (pv 2)) (ae (aq (pv 3)) ak))))))))
theorem yg (F:Df K mg "goes_on" fu ["plan","count"]) (B:Bs mg):Dn P w K mg base 1 "goes_on" ["plan","count"] (eK K 2 cK):=
 cS [] mP F pS fun f bR A outer s H E hr=>(ar (ax (au (i:=2) pS.nd rfl (Or.inl rfl) (ay bq aZ (PE.sh (aT (ag (pv 1)) (PE.sh (ai aj)))) (PE.sh (aT (ag (pv 1)) (PE.sh (ai aj)))))))
  (av (bV (Ji (Cj LF dw oz dw (PE.sh (ai aj)) (ag (pv 2)) (PE.sh (aW bC cu rfl B.len du (aB (ag (pv 0)) aN)))) (Il (B8 Jm Jn (PE.sh (aT (ag (pv 1)) (PE.sh (ai aj)))) (PE.sh (aT (ag (pv 0)) (ag (pv 2)))) (by with_unfolding_all rfl)))))))
theorem Bb (F:Df K mg "led_to" fN ["place"]) (B:Bs mg):Dn P w K mg base 1 "led_to" ["place"] (qu K 1 gN):=
 gq [] pE F Ba fun f bR A outer s H E hr=>(av (nV (kG B.sorted B.set (PE.sh (PE.nE (jx gj gm (PE.sh (PE.nE (oR lD uy rfl B.list yL (aB (ag (pv 0)) aN)))) (PE.sh (PE.nE (PE.CP (dD (ao fN) ["place"] [] ["bad"] ["bad"] lQ (PI.c (cw (aq (pv 0)))) (fun _ _ _ _ _ _=>(aH (aP (i:=0) (show (["bad"]:List Str).Nodup from by decide +kernel) rfl (Or.inl rfl)))) (fun _ _ _ _ _ _=>fE) (fun _ _ _ _ _ _=>(ay bq aZ (ag (pv 0)) (PE.sh (ai aj))))))))))))))
theorem yh (F:Df K mg "come_to" eE ["plan"]) (B:Bs mg) (pX:Dn P w K mg base 1 "led_to" ["place"] (qu K 1 gN)):Dn P w K mg base 2 "come_to" ["plan"] (qu K 1 fi):=
 gq [1] mQ F je fun f bR A outer s H E hr=>(ar (iV (au (i:=1) je.nd rfl (Or.inl rfl) (dz (ae (bh (ae (ai aj) (ae (ai aj) ak))) ak))))
  (ar (d3 PassesOwn.never rfl (CK B.enumerate (aq (pv 0))) (lL rfl (dY (aH (aP (i:=2) je.nd rfl (Or.inr rfl))) (dY (aH (aP (i:=3) je.nd rfl (Or.inl rfl))) lK)))
   (av (jW (gY (nj PySem.F.plainAttrs_list PySem.F.slot_list_extend PySem.F.type_list_extend jU (pv 1) (bU (PE.CP (dD (ao eE) ["plan","told","draws","place"] [2] ["bad","draws"] ["bad"] lQ (PI.c (cw (PE.nE (dA pX hr (by decide) (ae (aq (pv 3)) ak))))) (fun _ _ _ _ _ _=>(aH (aP (i:=0) (show (["bad","draws"]:List Str).Nodup from by decide +kernel) rfl (Or.inl rfl)))) (fun _ _ _ _ _ _=>fE) (fun _ _ _ _ _ _=>(bh (ae (aq (pv 0)) (ae (ay eZ iB (ag (pv 1)) (ag (pv 0))) ak)))))) df))))))
  (av (eB (pv 1)))))
theorem GO (F:Df K mg "ends" jM ["plan"]) (B:Bs mg) (m8:Dn P w K mg base 2 "come_to" ["plan"] (qu K 1 fi)) (da:Dn P w K mg base 1 "goes_on" ["plan","count"] (eK K 2 cK)):Dn P w K mg base 3 "ends" ["plan"] (qu K 1 jE):=
 gq [] xH F GH fun f bR A outer s H E hr=>(av (nV (dD (ao jM) ["plan"] [0] ["count","plan"] ["count"] lQ (PI.c (cw (PE.nE (dA m8 hr (by decide) (ae (aq (pv 0)) ak))))) (fun _ _ _ _ _ _=>(aH (aP (i:=0) (show (["count","plan"]:List Str).Nodup from by decide +kernel) rfl (Or.inl rfl)))) (fun _ _ _ _ _ _=>(sA (nU (iC (PE.sh (aS da hr (by decide) (ae (aq (pv 1)) (ae (aq (pv 0)) ak)))))))) (fun _ _ _ _ _ _=>(aq (pv 0))))))
theorem vH (F:Df K mg "drawn_on" dH ["plan"]) (B:Bs mg):Dn P w K mg base 1 "drawn_on" ["plan"] (qu K 1 fj):=
 gq [1] kQ F ia fun f bR A outer s H E hr=>(ar (iV (au (i:=1) ia.nd rfl (Or.inl rfl) (dz ak)))
  (ar (d3 PassesOwn.never rfl (uM B.enumerate (aq (pv 0))) (lL rfl (dY (aH (aP (i:=2) ia.nd rfl (Or.inr rfl))) (dY (aH (aP (i:=3) ia.nd rfl (Or.inl rfl))) lK)))
   (av (jW (gY (nj PySem.F.plainAttrs_list PySem.F.slot_list_extend PySem.F.type_list_extend jU (pv 1) (bU (PE.CP (dD (ao dH) ["plan","told","draws","place"] [2] ["bad","draws"] ["bad"] lQ (PI.c (cw (aq (pv 3)))) (fun _ _ _ _ _ _=>(aH (aP (i:=0) (show (["bad","draws"]:List Str).Nodup from by decide +kernel) rfl (Or.inl rfl)))) (fun _ _ _ _ _ _=>fE) (fun _ _ _ _ _ _=>(bh (ae (aq (pv 0)) (ae (ay eZ iB (ag (pv 1)) (ag (pv 0))) ak)))))) df))))))
  (av (eB (pv 1)))))
theorem En (F:Df K mg "after" jf ["count","sign"]) (B:Bs mg):Dn P w K mg base 1 "after" ["count","sign"] (eK K 2 b9):=
 cS [] sV F Ej fun f bR A outer s H E hr=>(ar (dX (bc (mC hr) imp_eq (ag (pv 1)) (PE.sh (eP dW)) (bQ _)) (av (bV (bh (ae (ay bq aZ (PE.sh (aT (ag (pv 0)) (PE.sh (ai aj)))) (PE.sh (ai aj))) (ae (aT (ag (pv 0)) (PE.sh (ai aj))) ak))))) cH)
  (av (bV (bh (ae (aT (ag (pv 0)) (PE.sh (ai aj))) (ae (ay bq aZ (PE.sh (aT (ag (pv 0)) (PE.sh (ai aj)))) (PE.sh (ai aj))) ak))))))
theorem tH (F:Df K mg "ways_from" dJ ["plan","beginning"]) (B:Bs mg) (eW:Dn P w K mg base 1 "after" ["count","sign"] (eK K 2 b9)) (la:Dn P w K mg base 1 "drawn_on" ["plan"] (qu K 1 fj)):Dn P w K mg base 2 "ways_from" ["plan","beginning"] (eK K 2 eC):=
 cS [2] jF F eV fun f bR A outer s H E hr=>let hu:=Nat.lt_of_le_of_lt (Nat.add_le_add_left (show 1<=64 by decide) _) hr.units
  (ar (sD (au (i:=2) eV.nd rfl (Or.inl rfl) (uN hu (ag (pv 1)) (ai aj))))
  (ar (d3 PassesOwn.never rfl (cw (PE.nE (dA la hr (by decide) (ae (aq (pv 0)) ak)))) (aH (aP (i:=3) eV.nd rfl (Or.inl rfl)))
   (ar (ax (au (i:=4) eV.nd rfl (Or.inl rfl) (pj hu (ag (pv 2)) (ag (pv 3)) (ai aj))))
  (av (d3 PassesOwn.never rfl (cw (bh (ae (aS eW hr (by decide) (ae (aq (pv 3)) (ae (eP dW) ak))) (ae (aS eW hr (by decide) (ae (aq (pv 3)) (ae (eP dW) ak))) ak)))) (aH (aP (i:=5) eV.nd rfl (Or.inl rfl)))
   (av (y4 (rY hu (pv 2) (ag (pv 5)) (ay bq aZ (PE.sh (pj hu (ag (pv 2)) (ag (pv 5)) (ai aj))) (ag (pv 4))) (by rfl))))))))
  (av (eB (pv 2)))))
theorem pY (F:Df K mg "rows_behind" cA ["plan","row","count"]) (B:Bs mg) (eW:Dn P w K mg base 1 "after" ["count","sign"] (eK K 2 b9)) (da:Dn P w K mg base 1 "goes_on" ["plan","count"] (eK K 2 cK)):Dn P w K mg base 28 "rows_behind" ["plan","row","count"] (qu K 3 fF):=by
 have XM:∀ n,Dn P w K mg base (2 + n) "rows_behind" ["plan","row","count"] (qu K 3 (bx n)):=fun n=>by
  induction n with
  | zero=>exact gq (k:=1) [3] (fun _=>none) F gS fun f bR A outer s H E hr=>Ag
  | succ n de=>exact gq (k:=2 + n) [3] (ir (bx n)) F gS fun f bR A outer s H E hr=>(ar (dX (nU (iC (PE.sh (aS da hr (by omega) (ae (aq (pv 0)) (ae (aq (pv 2)) ak)))))) (av (nV (dz (ae (aq (pv 1)) ak)))) cH)
  (ar (iV (au (i:=3) gS.nd rfl (Or.inl rfl) (dA de hr (by omega) (ae (aq (pv 0)) (ae (ay bq aZ (ag (pv 1)) (PE.sh (eP dW))) (ae (aS eW hr (by omega) (ae (aq (pv 2)) (ae (eP dW) ak))) ak))))))
  (ar (jW (gY (nj PySem.F.plainAttrs_list PySem.F.slot_list_extend PySem.F.type_list_extend jU (pv 3) (bU (dA de hr (by omega) (ae (aq (pv 0)) (ae (ay bq aZ (ag (pv 1)) (PE.sh (eP dW))) (ae (aS eW hr (by omega) (ae (aq (pv 2)) (ae (eP dW) ak))) ak)))) df))))
  (av (eB (pv 3))))))
 exact XM 26
theorem vI (F:Df K mg "rows_of" eF ["plan"]) (B:Bs mg) (jN:Cn mg "MOST_ROWS" (.int (4000))) (iP:∃ C tl,JP K mg "TooMany" C VE tl "ValueError.__new__") (m9:Dn P w K mg base 3 "ends" ["plan"] (qu K 1 jE)) (de:Dn P w K mg base 28 "rows_behind" ["plan","row","count"] (qu K 3 fF)) (jO:Dn P w K mg base 2 "ways_from" ["plan","beginning"] (eK K 2 eC)):zc P w K mg base 29 "rows_of" ["plan"] (lW K mg 1 iK):=by
 obtain ⟨_,_,iP⟩:=iP; exact u4 [] mR F pT fun f bR A outer s H E hr=>let hu:=Nat.lt_of_le_of_lt (Nat.add_le_add_left (show 1<=64 by decide) _) hr.units
  (ar (ax (au (i:=1) pT.nd rfl (Or.inr rfl) (aS jO hr (by decide) (ae (aq (pv 0)) (ae (bh (ae (ai aj) (ae (ai aj) ak))) ak)))))
  (ar (dX (bc ni dw (PE.sh (aW (rB rfl) za rfl B.sum CU (aB (PE.sh (PE.nE (PE.CP (dD (ao eF) ["plan","ways"] [1] ["end","ways"] ["end"] lQ (PI.c (cw (PE.nE (dA m9 hr (by decide) (ae (aq (pv 0)) ak))))) (fun _ _ _ _ _ _=>(aH (aP (i:=0) (show (["end","ways"]:List Str).Nodup from by decide +kernel) rfl (Or.inl rfl)))) (fun _ _ _ _ _ _=>fE) (fun _ _ _ _ _ _=>(nX hu (ag (pv 1)) (ag (pv 0)))))))) aN))) (PE.sh (ai (qV jN))) (bQ _)) (av (uW iP PySem.F.excBase_ValueError (by decide) PySem.F.excBase_ValueError dW)) cH)
  (av (nV (dA de hr (by decide) (ae (aq (pv 0)) (ae (eP dW) (ae (bh (ae (ai aj) (ae (ai aj) ak))) ak))))))))
theorem Bc (F:Df K mg "end_of" gR ["plan","row"]) (B:Bs mg) (eW:Dn P w K mg base 1 "after" ["count","sign"] (eK K 2 b9)) (da:Dn P w K mg base 1 "goes_on" ["plan","count"] (eK K 2 cK)):Dn P w K mg base 2 "end_of" ["plan","row"] (eK K 2 fL):=
 cS [] pF F j9 fun f bR A outer s H E hr=>(ar (ax (au (i:=2) j9.nd rfl (Or.inl rfl) (bh (ae (ai aj) (ae (ai aj) ak)))))
  (ar (d3 PassesOwn.never rfl (CS (aq (pv 1))) (aH (aP (i:=3) j9.nd rfl (Or.inl rfl)))
   (ar (dX (PW.pt (sf (bc rf rg (ag (pv 3)) (PE.sh (bh (ae (eP dW) (ae (eP dW) ak)))) (by with_unfolding_all rfl)) (pw_or1 (nU (iC (PE.sh (aS da hr (by decide) (ae (aq (pv 0)) (ae (aq (pv 2)) ak))))))))) (av oU) cH)
  (av (ax (au (i:=2) j9.nd rfl (Or.inl rfl) (aS eW hr (by decide) (ae (aq (pv 2)) (ae (aq (pv 3)) ak))))))))
  (ar (dX (iC (PE.sh (aS da hr (by decide) (ae (aq (pv 0)) (ae (aq (pv 2)) ak))))) (av oU) cH)
  (av (bV (aq (pv 2)))))))
theorem yi (F:Df K mg "by_end" fO ["plan","telling"]) (B:Bs mg) (fP:∃ C tl,JP K mg "NoTelling" C VE tl "ValueError.__new__") (pZ:Dn P w K mg base 2 "end_of" ["plan","row"] (eK K 2 fL)) (m9:Dn P w K mg base 3 "ends" ["plan"] (qu K 1 jE)) (lb:zc P w K mg base 29 "rows_of" ["plan"] (lW K mg 1 iK)):zc P w K mg base 30 "by_end" ["plan","telling"] (lW K mg 2 c7):=by
 obtain ⟨_,_,fP⟩:=fP; exact u4 [4] jG F fw fun f bR A outer s H E hr=>let hu:=Nat.lt_of_le_of_lt (Nat.add_le_add_left (show 1<=64 by decide) _) hr.units
  (ar (Dk (au (i:=2) fw.nd rfl (Or.inl rfl) (mK lb hr (by decide) xn (ae (aq (pv 0)) ak))))
  (ar (dX (bc (mD hr) kC (PE.sh (aW bC cu rfl B.len du (aB (ag (pv 1)) aN))) (PE.sh (aW bC cu rfl B.len du (aB (ag (pv 2)) aN))) (bQ _)) (av (uW fP PySem.F.excBase_ValueError (by decide) PySem.F.excBase_ValueError dW)) cH)
  (ar (ax (au (i:=3) fw.nd rfl (Or.inl rfl) (PE.nE (dA m9 hr (by decide) (ae (aq (pv 0)) ak)))))
  (ar (sD (au (i:=4) fw.nd rfl (Or.inr rfl) FF))
  (AY (zo PassesOwn.leaving rfl (cw (aq (pv 3))) (aP (i:=5) fw.nd rfl (Or.inl rfl)) (AV (by decide))
   (FY (rY hu (pv 4) (ag (pv 5)) (dz ak) (by rfl))))
  (zo PassesOwn.leaving rfl (JL B.zip (aq (pv 2)) (aq (pv 1))) (BB rfl (oq (aP (i:=6) fw.nd rfl (Or.inl rfl)) (oq (aP (i:=7) fw.nd rfl (Or.inl rfl)) yC))) (AW (by decide) (by decide))
   (FZ (gY (nj PySem.F.plainAttrs_list PySem.F.slot_list_append PySem.F.type_list_append jT (yJ hu (pv 4) (PE.sh (aS pZ hr (by decide) (ae (aq (pv 0)) (ae (aq (pv 6)) ak)))) (by intro _ _; rfl)) (bU (aq (pv 7)) df)))))
  (PE.CP (dD (ao fO) ["plan","telling","rows","there","groups","end","row","fraction"] [4] ["end","groups"] ["end"] lQ (PI.c (cw (aq (pv 3)))) (fun _ _ _ _ _ _=>(aH (aP (i:=0) (show (["end","groups"]:List Str).Nodup from by decide +kernel) rfl (Or.inl rfl)))) (fun _ _ _ _ _ _=>fE) (fun _ _ _ _ _ _=>(nX hu (ag (pv 1)) (ag (pv 0)))))))))))
theorem qE (F:Df K mg "sum_of_all" cV ["fractions"]) (B:Bs mg) {ib:Addr} (p5:Cn mg "NOUGHT" (.ref ib)) (p6:(ib,[V.int (0),V.int (1)])∈bY) (m7:Dn P w K mg base 4 "plus" ["one","other"] (eK K 2 kP)):Dn P w K mg base 5 "sum_of_all" ["fractions"] (eK K 1 bP):=
 cS [] i7 F fH fun f bR A outer s H E hr=>(ar (ax (au (i:=1) fH.nd rfl (Or.inl rfl) (ML (qV p5) p6 (fun _=>(.cons (.int _) (.cons (.int _) .nil))))))
  (ar (d3 PassesOwn.never rfl (cw (aq (pv 0))) (aH (aP (i:=2) fH.nd rfl (Or.inl rfl)))
   (av (ax (au (i:=1) fH.nd rfl (Or.inl rfl) (aS m7 hr (by decide) (ae (aq (pv 1)) (ae (aq (pv 2)) ak)))))))
  (av (bV (aq (pv 1))))))
theorem tJ (F:Df K mg "averaged" dM ["plan","telling"]) (B:Bs mg) (gG:zc P w K mg base 30 "by_end" ["plan","telling"] (lW K mg 2 c7)) (ng:Dn P w K mg base 5 "over" ["one","other"] (eK K 2 iq)) (cZ:Dn P w K mg base 5 "sum_of_all" ["fractions"] (eK K 1 bP)):zc P w K mg base 31 "averaged" ["plan","telling"] (EK K mg 2 dG):=by
 exact zd [] fk F vE fun f bR A outer s H E hr=>(av (u5 (ao dM) ["plan","telling"] [] ["group"] (mK gG hr (by decide) xn (ae (aq (pv 0)) (ae (aq (pv 1)) ak))) (fun _ _ _ _ _ _=>(aS ng hr (by decide) (ae (aS cZ hr (by decide) (ae (aq (pv 0)) ak)) (ae (bh (ae (aW bC cu rfl B.len du (aB (ag (pv 0)) aN)) (ae (ai aj) ak))) ak))))))
theorem yj (F:Df K mg "left_in" eG ["group"]) (B:Bs mg) (tK:Dn P w K mg base 5 "minus" ["one","other"] (eK K 2 l9)) (ng:Dn P w K mg base 5 "over" ["one","other"] (eK K 2 iq)) (oj:Dn P w K mg base 1 "power" ["one","many"] (eK K 2 hJ)) (cZ:Dn P w K mg base 5 "sum_of_all" ["fractions"] (eK K 1 bP)):Dn P w K mg base 6 "left_in" ["group"] (eK K 1 gD):=
 cS [] mT F pV fun f bR A outer s H E hr=>(ar (ax (au (i:=1) pV.nd rfl (Or.inl rfl) (aS cZ hr (by decide) (ae (PE.nE (PE.CP (dD (ao eG) ["group","squares"] [] ["fraction"] ["fraction"] lQ (PI.c (cw (aq (pv 0)))) (fun _ _ _ _ _ _=>(aH (aP (i:=0) (show (["fraction"]:List Str).Nodup from by decide +kernel) rfl (Or.inl rfl)))) (fun _ _ _ _ _ _=>fE) (fun _ _ _ _ _ _=>(aS oj hr (by decide) (ae (aq (pv 0)) (ae (ai aj) ak))))))) ak))))
  (av (bV (aS tK hr (by decide) (ae (aq (pv 1)) (ae (aS ng hr (by decide) (ae (aS oj hr (by decide) (ae (aS cZ hr (by decide) (ae (aq (pv 0)) ak)) (ae (ai aj) ak))) (ae (bh (ae (aW bC cu rfl B.len du (aB (ag (pv 0)) aN)) (ae (ai aj) ak))) ak))) ak))))))
theorem nP (F:Df K mg "left_within" cg ["plan","telling"]) (B:Bs mg) (gG:zc P w K mg base 30 "by_end" ["plan","telling"] (lW K mg 2 c7)) (nh:Dn P w K mg base 6 "left_in" ["group"] (eK K 1 gD)):zc P w K mg base 31 "left_within" ["plan","telling"] (EK K mg 2 cf):=by
 exact zd [] c9 F pU fun f bR A outer s H E hr=>(av (u5 (ao cg) ["plan","telling"] [] ["group"] (mK gG hr (by decide) xn (ae (aq (pv 0)) (ae (aq (pv 1)) ak))) (fun _ _ _ _ _ _=>(aS nh hr (by decide) (ae (aq (pv 0)) ak)))))
theorem vJ (F:Df K mg "_law_cell" eh ["_law_script","_law_k"]) (B:Bs mg):Dn P w K mg base 1 "_law_cell" ["_law_script","_law_k"] (eK K 2 d8):=
 cS [] kR F vF fun f bR A outer s H E hr=>(ar (dX (bc oz dw (ag (pv 1)) (PE.sh (aW bC cu rfl B.len du (aB (ag (pv 0)) aN))) (bQ _)) (av (bV (aT (ag (pv 0)) (ag (pv 1))))) cH)
  (av (bV (ai aj))))
theorem qF (F:Df K mg "_law_digits" cW ["_law_cell_here","_law_base","_law_many"]) (B:Bs mg):Dn P w K mg base 1 "_law_digits" ["_law_cell_here","_law_base","_law_many"] (qu K 3 dS):=
 gq [3] i8 F fI fun f bR A outer s H E hr=>(ar (iV (au (i:=3) fI.nd rfl (Or.inl rfl) (dz ak)))
  (ar (d3 PassesOwn.never rfl (iD B.range (ae (aq (pv 2)) ak)) (aH (aP (i:=4) fI.nd rfl (Or.inl rfl)))
   (ar (mG (gY (nj PySem.F.plainAttrs_list PySem.F.slot_list_append PySem.F.type_list_append jT (pv 3) (bU (ay cQ aJ (ag (pv 0)) (ag (pv 1))) df))))
  (av (ax (au (i:=0) fI.nd rfl (Or.inl rfl) (ay dr aJ (ag (pv 0)) (ag (pv 1))))))))
  (av (eB (pv 3)))))
theorem tL (F:Df K mg "_law_mixes" dN ["_law_cell_here","_law_base","_law_many"]) (B:Bs mg):Dn P w K mg base 1 "_law_mixes" ["_law_cell_here","_law_base","_law_many"] (qu K 3 fM):=
 gq [3] jI F gv fun f bR A outer s H E hr=>(ar (iV (au (i:=3) gv.nd rfl (Or.inl rfl) (dz ak)))
  (ar (d3 PassesOwn.never rfl (iD B.range (ae (aq (pv 2)) ak)) (aH (aP (i:=4) gv.nd rfl (Or.inl rfl)))
   (ar (ax (au (i:=5) gv.nd rfl (Or.inl rfl) (ay cQ aJ (PE.sh (ay bq aZ (PE.sh (ay bq aZ (PE.sh (ay bO aJ (PE.sh (ay cQ aJ (ag (pv 0)) (PE.sh (ai aj)))) (PE.sh (ai aj)))) (PE.sh (ay bO aJ (PE.sh (ay bO aJ (ag (pv 4)) (ag (pv 4)))) (PE.sh (ai aj)))))) (PE.sh (ay bO aJ (ag (pv 4)) (PE.sh (ai aj)))))) (PE.sh (ai aj)))))
  (av (mG (gY (nj PySem.F.plainAttrs_list PySem.F.slot_list_append PySem.F.type_list_append jT (pv 3) (bU (ay cQ aJ (PE.sh (ay dr aJ (PE.sh (ay cQ aJ (PE.sh (ay bq aZ (PE.sh (ay bO aJ (ag (pv 5)) (PE.sh (ai aj)))) (ag (pv 0)))) (PE.sh (ai aj)))) (PE.sh (ai aj)))) (ag (pv 1))) df)))))))
  (av (eB (pv 3)))))
theorem vK (F:Df K mg "_law_plan" cX ["_law_cell_here","_law_most_here"]) (B:Bs mg) (jg:Dn P w K mg base 1 "_law_digits" ["_law_cell_here","_law_base","_law_many"] (qu K 3 dS)) (jP:Dn P w K mg base 1 "_law_mixes" ["_law_cell_here","_law_base","_law_many"] (qu K 3 fM)):Dn P w K mg base 2 "_law_plan" ["_law_cell_here","_law_most_here"] (eK K 2 gP):=
 cS [5] kS F bG fun f bR A outer s H E hr=>(ar (ax (au (i:=2) bG.nd rfl (Or.inl rfl) (ay dr aJ (ag (pv 0)) (PE.sh (ai aj)))))
  (ar (ax (au (i:=3) bG.nd rfl (Or.inr rfl) (ay bq aZ (PE.sh (ai aj)) (PE.sh (ay bO aJ (PE.sh (ai aj)) (PE.sh (mE zX Ft rfl B.int IZ (aB (PE.sh (B8 ni dw (ag (pv 1)) (PE.sh (ai aj)) (bQ _))) aN))))))))
  (ar (ax (au (i:=4) bG.nd rfl (Or.inr rfl) (PE.nE (dA jP hr (by decide) (ae (aq (pv 2)) (ae (ai aj) (ae (aq (pv 3)) ak)))))))
  (ar (dX (bc LG dw (PE.sh (aW jr lH rfl B.abs oK (aB (ag (pv 0)) aN))) (PE.sh (ay Iw aJ (PE.sh (ai aj)) (PE.sh (ai aj)))) (bQ _)) (av (ax (au (i:=4) bG.nd rfl (Or.inr rfl) (PE.nE (dA jg hr (by decide) (ae (aq (pv 2)) (ae (ai aj) (ae (aq (pv 3)) ak)))))))) cH)
  (ar (iV (au (i:=5) bG.nd rfl (Or.inl rfl) (dz (ae (bh (ae (ai aj) ak)) ak))))
  (ar (ax (au (i:=6) bG.nd rfl (Or.inl rfl) (PE.nE (dz (ae (ai aj) (ae (ai aj) ak))))))
  (ar (ax (au (i:=7) bG.nd rfl (Or.inr rfl) (ai aj)))
  (ar (oV PassesOwn.never (PW.pt (se (bc oz dw (PE.sh (aW bC cu rfl B.len du (aB (ag (pv 5)) aN))) (ag (pv 1)) (bQ _)) (pw_and1 (bc ni dw (PE.sh (aW bC cu rfl B.len du (aB (ag (pv 6)) aN))) (PE.sh (ai aj)) (bQ _))))) (ar (ax (PS.nE (uL (i:=8) (ao cX) ["_law_cell_here","_law_most_here","_law_rest","_law_many","_law_digits_here","_law_rows","_law_come","_law_at","_law_row"] [4,3,7] ["_law_k","_law_bad","_law_digits_here","_law_many","_law_at"] ["_law_k","_law_bad"] bG.nd rfl rfl Pd (PI.c (lO B.enumerate (aq (pv 6)))) (fun _ _ _ _ _ _=>(lL rfl (dY (aH (aP (i:=0) (show (["_law_k","_law_bad","_law_digits_here","_law_many","_law_at"]:List Str).Nodup from by decide +kernel) rfl (Or.inl rfl))) (dY (aH (aP (i:=1) (show (["_law_k","_law_bad","_law_digits_here","_law_many","_law_at"]:List Str).Nodup from by decide +kernel) rfl (Or.inl rfl))) lK)))) (fun _ _ _ _ _ _=>(sA (bc ni dw (PE.sh (aT (ag (pv 2)) (PE.sh (ay cQ aJ (PE.sh (ay bq aZ (ag (pv 4)) (ag (pv 0)))) (ag (pv 3)))))) (PE.sh (ai aj)) (bQ _)))) (fun _ _ _ _ _ _=>(aq (pv 1))))))
  (ar (ax (au (i:=7) bG.nd rfl (Or.inr rfl) (ay bq aZ (ag (pv 7)) (PE.sh (aW bC cu rfl B.len du (aB (ag (pv 6)) aN))))))
  (ar (dX (bc ni dw (PE.sh (ay cQ aJ (ag (pv 0)) (PE.sh (ai aj)))) (PE.sh (ai aj)) (bQ _)) (av (ax (au (i:=8) bG.nd rfl (Or.inl rfl) (PE.nE (Ce (ag (pv 6)) (lJ (PE.sh (aT (ag (pv 4)) (PE.sh (ay cQ aJ (ag (pv 7)) (ag (pv 3))))))) (lJ (PE.sh (aW (qM rfl) yU rfl B.max BZ (aB (PE.sh (ai aj)) (aB (PE.sh (ay eZ iB (PE.sh (aW bC cu rfl B.len du (aB (ag (pv 6)) aN))) (PE.sh (aT (ag (pv 4)) (PE.sh (ay cQ aJ (PE.sh (ay bq aZ (ag (pv 7)) (PE.sh (ai aj)))) (ag (pv 3)))))))) aN)))))))))) cH)
  (ar (ax (au (i:=6) bG.nd rfl (Or.inl rfl) (PE.nE (kG B.sorted B.set (PE.sh (PE.nE (jx gj gm (ag (pv 8)) (PE.sh (PE.nE (PE.CP (dD (ao cX) ["_law_cell_here","_law_most_here","_law_rest","_law_many","_law_digits_here","_law_rows","_law_come","_law_at","_law_row"] [] ["_law_bad"] ["_law_bad"] lQ (PI.c (cw (aq (pv 8)))) (fun _ _ _ _ _ _=>(aH (aP (i:=0) (show (["_law_bad"]:List Str).Nodup from by decide +kernel) rfl (Or.inl rfl)))) (fun _ _ _ _ _ _=>fE) (fun _ _ _ _ _ _=>(ay bq aZ (ag (pv 0)) (PE.sh (ai aj)))))))))))))))
  (av (dX (bc ni dw (PE.sh (aW bC cu rfl B.len du (aB (ag (pv 8)) aN))) (PE.sh (ai aj)) (bQ _)) (av (mG (gY (nj PySem.F.plainAttrs_list PySem.F.slot_list_append PySem.F.type_list_append jT (pv 5) (bU (mE kh ra rfl B.tuple um (aB (ag (pv 8)) aN)) df))))) cH)))))))
  (av (bV (mE kh ra rfl B.tuple um (aB (ag (pv 5)) aN))))))))))))
theorem vL (F:Df K mg "_law_most" el ["_law_cell_here"]) (B:Bs mg):Dn P w K mg base 1 "_law_most" ["_law_cell_here"] (eK K 1 gQ):=
 cS [] kT F vG fun f bR A outer s H E hr=>(ar (dX (bc (mC hr) imp_eq (PE.sh (ay cQ aJ (PE.sh (ay dr aJ (ag (pv 0)) (PE.sh (ai aj)))) (PE.sh (ai aj)))) (PE.sh (ai aj)) (bQ _)) (av (bV (ay bq aZ (PE.sh (ai aj)) (PE.sh (ay cQ aJ (PE.sh (ay dr aJ (ag (pv 0)) (PE.sh (ai aj)))) (PE.sh (ai aj))))))) cH)
  (av (bV (ay bq aZ (PE.sh (ai aj)) (PE.sh (ay cQ aJ (ag (pv 0)) (PE.sh (ai aj))))))))
theorem vM (F:Df K mg "_law_ends" cY ["_law_plan_here"]) (B:Bs mg):Dn P w K mg base 1 "_law_ends" ["_law_plan_here"] (qu K 1 fm):=
 gq [1] kU F eI fun f bR A outer s H E hr=>(ar (iV (au (i:=1) eI.nd rfl (Or.inl rfl) (dz ak)))
  (ar (d3 PassesOwn.never rfl (Ak B.range (ae (ai aj) (ae (ay bq aZ (PE.sh (aW bC cu rfl B.len du (aB (ag (pv 0)) aN))) (PE.sh (ai aj))) ak))) (aH (aP (i:=2) eI.nd rfl (Or.inr rfl)))
   (ar (ax (au (i:=3) eI.nd rfl (Or.inr rfl) (bh ak)))
  (ar (dX (bc oz dw (ag (pv 2)) (PE.sh (aW bC cu rfl B.len du (aB (ag (pv 0)) aN))) (bQ _)) (av (ax (au (i:=3) eI.nd rfl (Or.inr rfl) (aT (ag (pv 0)) (ag (pv 2)))))) cH)
  (ar (ax (au (i:=4) eI.nd rfl (Or.inl rfl) (PE.nE (kG B.sorted B.set (PE.sh (PE.nE (jx gj gm (PE.sh (PE.nE (oR lD uy rfl B.list yL (aB (PE.sh (aT (ag (pv 0)) (PE.sh (ay eZ iB (ag (pv 2)) (PE.sh (ai aj)))))) aN)))) (PE.sh (PE.nE (PE.CP (dD (ao cY) ["_law_plan_here","_law_found","_law_n","_law_on","_law_come"] [] ["_law_bad"] ["_law_bad"] lQ (PI.c (cw (aT (ag (pv 0)) (PE.sh (ay eZ iB (ag (pv 2)) (PE.sh (ai aj))))))) (fun _ _ _ _ _ _=>(aH (aP (i:=0) (show (["_law_bad"]:List Str).Nodup from by decide +kernel) rfl (Or.inl rfl)))) (fun _ _ _ _ _ _=>fE) (fun _ _ _ _ _ _=>(ay bq aZ (ag (pv 0)) (PE.sh (ai aj)))))))))))))))
  (av (jW (gY (nj PySem.F.plainAttrs_list PySem.F.slot_list_extend PySem.F.type_list_extend jU (pv 1) (bU (dD (ao cY) ["_law_plan_here","_law_found","_law_n","_law_on","_law_come"] [2,3] ["_law_bad","_law_n","_law_on"] ["_law_bad"] lQ (PI.c (cw (aq (pv 4)))) (fun _ _ _ _ _ _=>(aH (aP (i:=0) (show (["_law_bad","_law_n","_law_on"]:List Str).Nodup from by decide +kernel) rfl (Or.inl rfl)))) (fun _ _ _ _ _ _=>(sA (bc rf rg (ag (pv 0)) (ag (pv 2)) (by with_unfolding_all rfl)))) (fun _ _ _ _ _ _=>(bh (ae (aq (pv 0)) (ae (ay eZ iB (ag (pv 1)) (ag (pv 0))) ak))))) df)))))))))
  (av (eB (pv 1)))))
theorem vN (F:Df K mg "_law_ways" eu ["_law_plan_here"]) (B:Bs mg):Dn P w K mg base 1 "_law_ways" ["_law_plan_here"] (eK K 1 fq):=
 cS [1] kW F dO fun f bR A outer s H E hr=>let hu:=Nat.lt_of_le_of_lt (Nat.add_le_add_left (show 1<=64 by decide) _) hr.units
  (ar (sD (au (i:=1) dO.nd rfl (Or.inl rfl) (uN hu (PE.sh (bh (ae (ai aj) (ae (ai aj) ak)))) (ai aj))))
  (ar (d3 PassesOwn.never rfl (uM B.enumerate (aq (pv 0))) (lL rfl (dY (aH (aP (i:=2) dO.nd rfl (Or.inl rfl))) (dY (aH (aP (i:=3) dO.nd rfl (Or.inl rfl))) lK)))
   (av (d3 PassesOwn.never rfl (cw (aq (pv 3))) (aH (aP (i:=4) dO.nd rfl (Or.inl rfl)))
   (ar (ax (au (i:=5) dO.nd rfl (Or.inl rfl) (nX hu (ag (pv 1)) (PE.sh (bh (ae (aq (pv 4)) (ae (ay eZ iB (ag (pv 2)) (ag (pv 4))) ak)))))))
  (av (d3 PassesOwn.never rfl (cw (bh (ae (bh (ae (ay bq aZ (ag (pv 4)) (PE.sh (ai aj))) (ae (ay eZ iB (ag (pv 2)) (ag (pv 4))) ak))) (ae (bh (ae (aq (pv 4)) (ae (ay bq aZ (PE.sh (ay eZ iB (ag (pv 2)) (ag (pv 4)))) (PE.sh (ai aj))) ak))) ak)))) (aH (aP (i:=6) dO.nd rfl (Or.inl rfl)))
   (av (y4 (rY hu (pv 1) (ag (pv 6)) (ay bq aZ (PE.sh (pj hu (ag (pv 1)) (ag (pv 6)) (ai aj))) (ag (pv 5))) (by rfl))))))))))
  (av (eB (pv 1)))))
theorem tM (F:Df K mg "_law_word" dP ["_law_e"]) (B:Bs mg) (CT:JZ K mg eO sR) (Qk:mg "ValueError"=none) (Ql:N1 K eO "ValueError" (.type "ValueError")):N3 P w K mg base 1 "_law_word" ["_law_e"] (fun y=>eK K 1 (d9 y)):=by
 refine FQ [] pH F cP fun y f bR A outer s H hr hy=>?_
 refine ar ?_ ?_
 ·exact (ax (au (i:=1) cP.nd rfl (Or.inr rfl) (PE.nE (dz (ae (cT eO sR CT (.head _) B.isinstance (ag (pv 0))) (ae (cT eO sR CT (.tail _ (.head _)) B.isinstance (ag (pv 0))) (ae (cT eO sR CT (.tail _ (.tail _ (.head _))) B.isinstance (ag (pv 0))) (ae (cT eO sR CT (.tail _ (.tail _ (.tail _ (.head _)))) B.isinstance (ag (pv 0))) ak))))))))
 refine ar ?_ ?_
 ·exact (ax (au (i:=1) cP.nd rfl (Or.inr rfl) (PE.nE (jx gj gm (ag (pv 1)) (PE.sh (PE.nE (dz (ae (cT eO sR CT (.tail _ (.tail _ (.tail _ (.tail _ (.head _))))) B.isinstance (ag (pv 0))) (ae (cT eO sR CT (.tail _ (.tail _ (.tail _ (.tail _ (.tail _ (.head _)))))) B.isinstance (ag (pv 0))) (ae (cT eO sR CT (.tail _ (.tail _ (.tail _ (.tail _ (.tail _ (.tail _ (.head _))))))) B.isinstance (ag (pv 0))) (ae (cT eO sR CT (.tail _ (.tail _ (.tail _ (.tail _ (.tail _ (.tail _ (.tail _ (.head _)))))))) B.isinstance (ag (pv 0))) ak)))))))))))
 refine ar ?_ ?_
 ·exact (ax (au (i:=1) cP.nd rfl (Or.inr rfl) (PE.nE (jx gj gm (ag (pv 1)) (PE.sh (PE.nE (dz (ae (cT eO sR CT (.tail _ (.tail _ (.tail _ (.tail _ (.tail _ (.tail _ (.tail _ (.tail _ (.head _))))))))) B.isinstance (ag (pv 0))) (ae (cT eO sR CT (.tail _ (.tail _ (.tail _ (.tail _ (.tail _ (.tail _ (.tail _ (.tail _ (.tail _ (.head _)))))))))) B.isinstance (ag (pv 0))) (ae (cT eO sR CT (.tail _ (.tail _ (.tail _ (.tail _ (.tail _ (.tail _ (.tail _ (.tail _ (.tail _ (.tail _ (.head _))))))))))) B.isinstance (ag (pv 0))) (ae (cT eO sR CT (.tail _ (.tail _ (.tail _ (.tail _ (.tail _ (.tail _ (.tail _ (.tail _ (.tail _ (.tail _ (.tail _ (.head _)))))))))))) B.isinstance (ag (pv 0))) ak)))))))))))
 refine ar ?_ ?_
 ·exact (ax (au (i:=1) cP.nd rfl (Or.inr rfl) (PE.nE (jx gj gm (ag (pv 1)) (PE.sh (PE.nE (dz (ae (cT eO sR CT (.tail _ (.tail _ (.tail _ (.tail _ (.tail _ (.tail _ (.tail _ (.tail _ (.tail _ (.tail _ (.tail _ (.tail _ (.head _))))))))))))) B.isinstance (ag (pv 0))) (ae (cT eO sR CT (.tail _ (.tail _ (.tail _ (.tail _ (.tail _ (.tail _ (.tail _ (.tail _ (.tail _ (.tail _ (.tail _ (.tail _ (.tail _ (.head _)))))))))))))) B.isinstance (ag (pv 0))) (ae (cT eO sR CT (.tail _ (.tail _ (.tail _ (.tail _ (.tail _ (.tail _ (.tail _ (.tail _ (.tail _ (.tail _ (.tail _ (.tail _ (.tail _ (.tail _ (.head _))))))))))))))) B.isinstance (ag (pv 0))) ak))))))))))
 refine ar ?_ ?_
 ·refine ax ?_
  refine au ?_ ?_ ?_ ?_ ?_ ?_
  ·exact cP.nd
  ·rfl
  ·exact (Or.inr rfl)
  ·refine PE.nE ?_
   refine dz ?_
   exact pA rfl
  ·exact AR
  ·exact .inl rfl
 refine ar ?_ ?_
 ·exact (ax (au (i:=2) cP.nd rfl (Or.inr rfl) (PE.nE (jx gj gm (ag (pv 2)) (PE.sh (PE.nE (dz (pA (by rfl)))))))))
 refine ar ?_ ?_
 ·exact (ax (PS.nE (AQ (gd:=N2 y) (i:=3) (ao dP) ["_law_e","_law_named","_law_words","_law_some"] [2,1] ["_law_k","_law_words","_law_named"] ["_law_k"] (fun _ _ _ _ _ _=>hy) cP.nd rfl rfl lQ (xt y 0 B.range (ae (ai aj) ak)) (fun _ _ _ _ _ _=>(aH (aP (i:=0) (show (["_law_k","_law_words","_law_named"]:List Str).Nodup from by decide +kernel) rfl (Or.inl rfl)))) (fun _ _ _ _ _ _=>(sA (iC (PE.sh (aT (ag (pv 2)) (ag (pv 0))))))) (fun _ _ _ _ _ _=>(aT (ag (pv 1)) (ag (pv 0)))))))
 refine ar ?_ ?_
 ·exact (dX (PW.pt (sf (bc (JX hr) kC (PE.sh (aW bC cu rfl B.len du (aB (ag (pv 3)) aN))) (PE.sh (ai aj)) (bQ _)) (pw_or1 (nU (iC (PE.sh (zh eO B.isinstance (ag (pv 0)) (ET rfl Qk MV (v:=.ty "ValueError") rfl) (fun _ r=>r) Ql))))))) (av (bV (eP dW))) cH)
 exact av (bV (aT (ag (pv 3)) (PE.sh (ai aj))))
theorem tO (F:Df K mg "_law_asked" dQ ["_law_plan_here","_law_telling","_law_way"]) (B:Bs mg) {cL:Addr} (mL:mg "LotError"=some (.ref cL)) (CE:MU K mg cL eO) (jQ:N3 P w K mg base 1 "_law_word" ["_law_e"] (fun y=>eK K 1 (d9 y))) (jR:zc P w K mg base 31 "averaged" ["plan","telling"] (EK K mg 2 dG)) (gT:zc P w K mg base 31 "left_within" ["plan","telling"] (EK K mg 2 cf)):Dn P w K mg base 32 "_law_asked" ["_law_plan_here","_law_telling","_law_way"] (eK K 3 eD):=
 cS [] hV F gy fun f bR A outer s H E hr=>(ar (JV (i:=4) (gs:=nA) (hand:=i3 eO (fun c=>.str c)) (fun iG E=>(av (dX (bc (mC hr) imp_eq (ag (pv 2)) (PE.sh (ai aj)) (bQ _)) (av (ze (au (i:=3) gy.nd rfl (Or.inl rfl) (uX jR hr (by decide) zf (ae (aq (pv 0)) (ae (aq (pv 1)) ak)))))) (av (ze (au (i:=3) gy.nd rfl (Or.inl rfl) (uX gT hr (by decide) zf (ae (aq (pv 0)) (ae (aq (pv 1)) ak))))))))) (fun a=>(av (bV (C9 (G:=d9) (y:=a) jQ (hr.markX _) (by decide) rfl (ae (aq (pv 4)) ak))))) (fun c d h=>CE c (xu h)) sZ mL gy.nd)
  (av (bV (aW bC cu rfl B.len du (aB (ag (pv 3)) aN)))))
theorem Kz {f:Addr} {fd:FuncData} (F:ij K "law" "law" iO f fd) (B:Bs mg) (jS:Dn P w K mg base 32 "_law_asked" ["_law_plan_here","_law_telling","_law_way"] (eK K 3 eD)) (jh:Dn P w K mg base 1 "_law_cell" ["_law_script","_law_k"] (eK K 2 d8)) (lg:Dn P w K mg base 1 "_law_ends" ["_law_plan_here"] (qu K 1 fm)) (lh:Dn P w K mg base 1 "_law_most" ["_law_cell_here"] (eK K 1 gQ)) (lj:Dn P w K mg base 2 "_law_plan" ["_law_cell_here","_law_most_here"] (eK K 2 gP)) (ll:Dn P w K mg base 1 "_law_ways" ["_law_plan_here"] (eK K 1 fq)):nI P w K mg base v8 33 f fd ["_law_script"] (eK K 1 rK):=
 Mm [] Dw F fA fun f bR A outer s H E hr=>let hu:=Nat.lt_of_le_of_lt (Nat.add_le_add_left (show 1<=64 by decide) _) hr.units
  (ar (ax (au (i:=1) fA.nd rfl (Or.inl rfl) (aS lj hr (by decide) (ae (aS jh hr (by decide) (ae (aq (pv 0)) (ae (ai aj) ak))) (ae (aS lh hr (by decide) (ae (aS jh hr (by decide) (ae (aq (pv 0)) (ae (ai aj) ak))) ak)) ak)))))
  (ar (ax (au (i:=2) fA.nd rfl (Or.inr rfl) (aS ll hr (by decide) (ae (aq (pv 1)) ak))))
  (ar (ax (au (i:=3) fA.nd rfl (Or.inl rfl) (PE.nE (dA lg hr (by decide) (ae (aq (pv 1)) ak)))))
  (ar (ax (au (i:=4) fA.nd rfl (Or.inl rfl) (aW (rB rfl) za rfl B.sum CU (aB (PE.sh (PE.nE (PE.CP (dD (ao iO) ["_law_script","_law_plan_here","_law_ways_here","_law_last","_law_many","_law_j","_law_cell_here","_law_size","_law_telling","_law_due","_law_way"] [2] ["_law_end","_law_ways_here"] ["_law_end"] lQ (PI.c (cw (aq (pv 3)))) (fun _ _ _ _ _ _=>(aH (aP (i:=0) (show (["_law_end","_law_ways_here"]:List Str).Nodup from by decide +kernel) rfl (Or.inl rfl)))) (fun _ _ _ _ _ _=>fE) (fun _ _ _ _ _ _=>(nX hu (ag (pv 1)) (ag (pv 0)))))))) aN))))
  (ar (d3 PassesOwn.never rfl (lO B.enumerate (PE.nE (jx gj gm (PE.sh (PE.nE (dz (ae (ai aj) (ae (ai aj) ak))))) (PE.sh (PE.nE (Ce (ag (pv 0)) (lJ (PE.sh (ai aj))) (lJ (PE.sh (ai aj))))))))) (lL rfl (dY (aH (aP (i:=5) fA.nd rfl (Or.inl rfl))) (dY (aH (aP (i:=6) fA.nd rfl (Or.inr rfl))) lK)))
   (ar (ax (au (i:=7) fA.nd rfl (Or.inl rfl) (aW (qM rfl) yU rfl B.max BZ (aB (PE.sh (ai aj)) (aB (PE.sh (ay bq aZ (PE.sh (aW (zW rfl) Fq rfl B.min Ja (aB (ag (pv 4)) (aB (PE.sh (ai aj)) aN)))) (PE.sh (aT (PE.sh (PE.nE (dz (ae (ai aj) (ae (ai aj) (ae (r9 (PE.sh (ai aj))) (ae (ai aj) (ae (ai aj) (ae (r9 (PE.sh (ai aj))) (ae (ai aj) ak)))))))))) (PE.sh (ay cQ aJ (ag (pv 6)) (PE.sh (ai aj)))))))) aN)))))
  (ar (ax (PS.nE (PS.CP (uL (i:=8) (ao iO) ["_law_script","_law_plan_here","_law_ways_here","_law_last","_law_many","_law_j","_law_cell_here","_law_size","_law_telling","_law_due","_law_way"] [6] ["_law_k","_law_cell_here"] ["_law_k"] fA.nd rfl rfl lQ (PI.c (iD B.range (ae (aq (pv 7)) ak))) (fun _ _ _ _ _ _=>(aH (aP (i:=0) (show (["_law_k","_law_cell_here"]:List Str).Nodup from by decide +kernel) rfl (Or.inl rfl)))) (fun _ _ _ _ _ _=>fE) (fun _ _ _ _ _ _=>(bh (ae (ay cQ aJ (PE.sh (ay dr aJ (ag (pv 1)) (PE.sh (ai aj)))) (PE.sh (ai aj))) (ae (ai aj) ak))))))))
  (ar (ax (au (i:=9) fA.nd rfl (Or.inl rfl) (aW bC cu rfl B.len du (aB (ag (pv 3)) aN))))
  (ar (dX (bc (mD hr) kC (ag (pv 7)) (ag (pv 4)) (bQ _)) (av (ax (au (i:=9) fA.nd rfl (Or.inl rfl) (eP dW)))) cH)
  (ar (dX (bc ni dw (ag (pv 4)) (PE.sh (ai aj)) (bQ _)) (av (ax (au (i:=9) fA.nd rfl (Or.inl rfl) (eP dW)))) cH)
  (av (d3 PassesOwn.never rfl (iD B.range (ae (ai aj) ak)) (aH (aP (i:=10) fA.nd rfl (Or.inl rfl)))
   (ar (dX (PW.pt (se (Al oz dw oz dw (PE.sh (ai aj)) (ag (pv 4)) (PE.sh (ai aj))) (pw_and1 (PW.pt (sf (bc (AE hr) FK (PE.sh (bh (ae (aq (pv 5)) (ae (aq (pv 10)) ak)))) (PE.sh (bh (ae (bh (ae (ai aj) (ae (ai aj) ak))) (ae (bh (ae (ai aj) (ae (ai aj) ak))) ak)))) (by with_unfolding_all rfl)) (pw_or1 (PW.pt (se (bc (mC hr) imp_eq (ag (pv 5)) (PE.sh (ai aj)) (bQ _)) (pw_and1 (bc (mC hr) imp_eq (ag (pv 7)) (ag (pv 4)) (bQ _))))))))))) (av Fu) cH)
  (av (dX (PW.pt (sf (bc (mD hr) kC (PE.sh (aS jS hr (by decide) (ae (aq (pv 1)) (ae (aq (pv 8)) (ae (aq (pv 10)) ak))))) (ag (pv 9)) (bQ _)) (pw_or1 (bc (mD hr) kC (PE.sh (aW bC cu rfl B.len du (aB (ag (pv 8)) aN))) (ag (pv 7)) (bQ _))))) (av (bV (Hw G8))) cH)))))))))))
  (av (bV (Hw G8))))))))
end
structure QF (K:PySem.W.Frag) (n:Str) (st:Stmt) (f:Addr) (od an:Option Addr) (sl:Array (Option Value)) (oc kV dc pm cd ct:Value):Prop where
 a:PySem.W.nsIn K mainGlobals n=some (some (.ref f))
 l:K.lookup f=some ⟨oc,od,.func (PySem.W.fnOf n n (iQ st) (cD st) (ao st) .none kV dc pm an cd ct),sl⟩
 c:PySem.W.codeIn K cd n=true
 k:PySem.W.keepIn K (.ref f)=true
theorem Eo {us:List Value} {n:Nat} (h:us.length=n + 1):∃ a r,us=a :: r /\ r.length=n:=by cases us with | nil=>cases h | cons a r=>exact ⟨a,r,rfl,Nat.succ.inj h⟩
theorem len_1 (us:List Value) (h:us.length=1):∃ a0,us=[a0]:=by obtain ⟨a,r,rfl,g⟩:=Eo h; rw [List.length_eq_zero_iff.mp g]; exact ⟨a,rfl⟩
theorem len_2 (us:List Value) (h:us.length=2):∃ a0 a1,us=[a0,a1]:=by obtain ⟨a,r,rfl,g⟩:=Eo h; obtain ⟨a0,rfl⟩:=len_1 r g; exact ⟨a,a0,rfl⟩
theorem len_3 (us:List Value) (h:us.length=3):∃ a0 a1 a2,us=[a0,a1,a2]:=by obtain ⟨a,r,rfl,g⟩:=Eo h; obtain ⟨a0,a1,rfl⟩:=len_2 r g; exact ⟨a,a0,a1,rfl⟩
section
variable {K:PySem.W.Frag} {mg:Str->Option Value} {f:Addr} {fd:FuncData}
theorem GP (F:ij K "frac" "frac" kZ f fd) (m:mg "frac"=some (.ref f)):Df K mg "frac" kZ ["top","bottom"]:=⟨f,fd,F,m,F.binds fun _ _ _ _ _ _ us hl=>by obtain ⟨a0,a1,rfl⟩:=len_2 us hl; rfl⟩
theorem GQ (F:ij K "plus" "plus" k7 f fd) (m:mg "plus"=some (.ref f)):Df K mg "plus" k7 ["one","other"]:=⟨f,fd,F,m,F.binds fun _ _ _ _ _ _ us hl=>by obtain ⟨a0,a1,rfl⟩:=len_2 us hl; rfl⟩
theorem Ep (F:ij K "minus" "minus" jb f fd) (m:mg "minus"=some (.ref f)):Df K mg "minus" jb ["one","other"]:=⟨f,fd,F,m,F.binds fun _ _ _ _ _ _ us hl=>by obtain ⟨a0,a1,rfl⟩:=len_2 us hl; rfl⟩
theorem Er (F:ij K "times" "times" jc f fd) (m:mg "times"=some (.ref f)):Df K mg "times" jc ["one","other"]:=⟨f,fd,F,m,F.binds fun _ _ _ _ _ _ us hl=>by obtain ⟨a0,a1,rfl⟩:=len_2 us hl; rfl⟩
theorem GS (F:ij K "over" "over" k8 f fd) (m:mg "over"=some (.ref f)):Df K mg "over" k8 ["one","other"]:=⟨f,fd,F,m,F.binds fun _ _ _ _ _ _ us hl=>by obtain ⟨a0,a1,rfl⟩:=len_2 us hl; rfl⟩
theorem Es (F:ij K "power" "power" jd f fd) (m:mg "power"=some (.ref f)):Df K mg "power" jd ["one","many"]:=⟨f,fd,F,m,F.binds fun _ _ _ _ _ _ us hl=>by obtain ⟨a0,a1,rfl⟩:=len_2 us hl; rfl⟩
theorem kg (F:ij K "greatest_divisor" "greatest_divisor" bB f fd) (m:mg "greatest_divisor"=some (.ref f)):Df K mg "greatest_divisor" bB ["one","other"]:=⟨f,fd,F,m,F.binds fun _ _ _ _ _ _ us hl=>by obtain ⟨a0,a1,rfl⟩:=len_2 us hl; rfl⟩
theorem GU (F:ij K "leap" "leap" k9 f fd) (m:mg "leap"=some (.ref f)):Df K mg "leap" k9 ["one","other"]:=⟨f,fd,F,m,F.binds fun _ _ _ _ _ _ us hl=>by obtain ⟨a0,a1,rfl⟩:=len_2 us hl; rfl⟩
theorem yk (F:ij K "goes_on" "goes_on" fu f fd) (m:mg "goes_on"=some (.ref f)):Df K mg "goes_on" fu ["plan","count"]:=⟨f,fd,F,m,F.binds fun _ _ _ _ _ _ us hl=>by obtain ⟨a0,a1,rfl⟩:=len_2 us hl; rfl⟩
theorem ym (F:ij K "come_to" "come_to" eE f fd) (m:mg "come_to"=some (.ref f)):Df K mg "come_to" eE ["plan"]:=⟨f,fd,F,m,F.binds fun _ _ _ _ _ _ us hl=>by obtain ⟨a0,rfl⟩:=len_1 us hl; rfl⟩
theorem GV (F:ij K "ends" "ends" jM f fd) (m:mg "ends"=some (.ref f)):Df K mg "ends" jM ["plan"]:=⟨f,fd,F,m,F.binds fun _ _ _ _ _ _ us hl=>by obtain ⟨a0,rfl⟩:=len_1 us hl; rfl⟩
theorem vO (F:ij K "drawn_on" "drawn_on" dH f fd) (m:mg "drawn_on"=some (.ref f)):Df K mg "drawn_on" dH ["plan"]:=⟨f,fd,F,m,F.binds fun _ _ _ _ _ _ us hl=>by obtain ⟨a0,rfl⟩:=len_1 us hl; rfl⟩
theorem Bd (F:ij K "led_to" "led_to" fN f fd) (m:mg "led_to"=some (.ref f)):Df K mg "led_to" fN ["place"]:=⟨f,fd,F,m,F.binds fun _ _ _ _ _ _ us hl=>by obtain ⟨a0,rfl⟩:=len_1 us hl; rfl⟩
theorem Et (F:ij K "after" "after" jf f fd) (m:mg "after"=some (.ref f)):Df K mg "after" jf ["count","sign"]:=⟨f,fd,F,m,F.binds fun _ _ _ _ _ _ us hl=>by obtain ⟨a0,a1,rfl⟩:=len_2 us hl; rfl⟩
theorem tP (F:ij K "ways_from" "ways_from" dJ f fd) (m:mg "ways_from"=some (.ref f)):Df K mg "ways_from" dJ ["plan","beginning"]:=⟨f,fd,F,m,F.binds fun _ _ _ _ _ _ us hl=>by obtain ⟨a0,a1,rfl⟩:=len_2 us hl; rfl⟩
theorem yn (F:ij K "rows_of" "rows_of" eF f fd) (m:mg "rows_of"=some (.ref f)):Df K mg "rows_of" eF ["plan"]:=⟨f,fd,F,m,F.binds fun _ _ _ _ _ _ us hl=>by obtain ⟨a0,rfl⟩:=len_1 us hl; rfl⟩
theorem Be (F:ij K "end_of" "end_of" gR f fd) (m:mg "end_of"=some (.ref f)):Df K mg "end_of" gR ["plan","row"]:=⟨f,fd,F,m,F.binds fun _ _ _ _ _ _ us hl=>by obtain ⟨a0,a1,rfl⟩:=len_2 us hl; rfl⟩
theorem p8 (F:ij K "rows_behind" "rows_behind" cA f fd) (m:mg "rows_behind"=some (.ref f)):Df K mg "rows_behind" cA ["plan","row","count"]:=⟨f,fd,F,m,F.binds fun _ _ _ _ _ _ us hl=>by obtain ⟨a0,a1,a2,rfl⟩:=len_3 us hl; rfl⟩
theorem vP (F:ij K "averaged" "averaged" dM f fd) (m:mg "averaged"=some (.ref f)):Df K mg "averaged" dM ["plan","telling"]:=⟨f,fd,F,m,F.binds fun _ _ _ _ _ _ us hl=>by obtain ⟨a0,a1,rfl⟩:=len_2 us hl; rfl⟩
theorem p9 (F:ij K "left_within" "left_within" cg f fd) (m:mg "left_within"=some (.ref f)):Df K mg "left_within" cg ["plan","telling"]:=⟨f,fd,F,m,F.binds fun _ _ _ _ _ _ us hl=>by obtain ⟨a0,a1,rfl⟩:=len_2 us hl; rfl⟩
theorem yo (F:ij K "left_in" "left_in" eG f fd) (m:mg "left_in"=some (.ref f)):Df K mg "left_in" eG ["group"]:=⟨f,fd,F,m,F.binds fun _ _ _ _ _ _ us hl=>by obtain ⟨a0,rfl⟩:=len_1 us hl; rfl⟩
theorem Bf (F:ij K "by_end" "by_end" fO f fd) (m:mg "by_end"=some (.ref f)):Df K mg "by_end" fO ["plan","telling"]:=⟨f,fd,F,m,F.binds fun _ _ _ _ _ _ us hl=>by obtain ⟨a0,a1,rfl⟩:=len_2 us hl; rfl⟩
theorem qG (F:ij K "sum_of_all" "sum_of_all" cV f fd) (m:mg "sum_of_all"=some (.ref f)):Df K mg "sum_of_all" cV ["fractions"]:=⟨f,fd,F,m,F.binds fun _ _ _ _ _ _ us hl=>by obtain ⟨a0,rfl⟩:=len_1 us hl; rfl⟩
theorem vQ (F:ij K "_law_cell" "_law_cell" eh f fd) (m:mg "_law_cell"=some (.ref f)):Df K mg "_law_cell" eh ["_law_script","_law_k"]:=⟨f,fd,F,m,F.binds fun _ _ _ _ _ _ us hl=>by obtain ⟨a0,a1,rfl⟩:=len_2 us hl; rfl⟩
theorem qH (F:ij K "_law_digits" "_law_digits" cW f fd) (m:mg "_law_digits"=some (.ref f)):Df K mg "_law_digits" cW ["_law_cell_here","_law_base","_law_many"]:=⟨f,fd,F,m,F.binds fun _ _ _ _ _ _ us hl=>by obtain ⟨a0,a1,a2,rfl⟩:=len_3 us hl; rfl⟩
theorem tQ (F:ij K "_law_mixes" "_law_mixes" dN f fd) (m:mg "_law_mixes"=some (.ref f)):Df K mg "_law_mixes" dN ["_law_cell_here","_law_base","_law_many"]:=⟨f,fd,F,m,F.binds fun _ _ _ _ _ _ us hl=>by obtain ⟨a0,a1,a2,rfl⟩:=len_3 us hl; rfl⟩
theorem vR (F:ij K "_law_plan" "_law_plan" cX f fd) (m:mg "_law_plan"=some (.ref f)):Df K mg "_law_plan" cX ["_law_cell_here","_law_most_here"]:=⟨f,fd,F,m,F.binds fun _ _ _ _ _ _ us hl=>by obtain ⟨a0,a1,rfl⟩:=len_2 us hl; rfl⟩
theorem vS (F:ij K "_law_most" "_law_most" el f fd) (m:mg "_law_most"=some (.ref f)):Df K mg "_law_most" el ["_law_cell_here"]:=⟨f,fd,F,m,F.binds fun _ _ _ _ _ _ us hl=>by obtain ⟨a0,rfl⟩:=len_1 us hl; rfl⟩
theorem vT (F:ij K "_law_ends" "_law_ends" cY f fd) (m:mg "_law_ends"=some (.ref f)):Df K mg "_law_ends" cY ["_law_plan_here"]:=⟨f,fd,F,m,F.binds fun _ _ _ _ _ _ us hl=>by obtain ⟨a0,rfl⟩:=len_1 us hl; rfl⟩
theorem vU (F:ij K "_law_ways" "_law_ways" eu f fd) (m:mg "_law_ways"=some (.ref f)):Df K mg "_law_ways" eu ["_law_plan_here"]:=⟨f,fd,F,m,F.binds fun _ _ _ _ _ _ us hl=>by obtain ⟨a0,rfl⟩:=len_1 us hl; rfl⟩
theorem vV (F:ij K "_law_word" "_law_word" dP f fd) (m:mg "_law_word"=some (.ref f)):Df K mg "_law_word" dP ["_law_e"]:=⟨f,fd,F,m,F.binds fun _ _ _ _ _ _ us hl=>by obtain ⟨a0,rfl⟩:=len_1 us hl; rfl⟩
theorem tR (F:ij K "_law_asked" "_law_asked" dQ f fd) (m:mg "_law_asked"=some (.ref f)):Df K mg "_law_asked" dQ ["_law_plan_here","_law_telling","_law_way"]:=⟨f,fd,F,m,F.binds fun _ _ _ _ _ _ us hl=>by obtain ⟨a0,a1,a2,rfl⟩:=len_3 us hl; rfl⟩
theorem KA (F:ij K "law" "law" iO f fd) (m:mg "law"=some (.ref f)):Df K mg "law" iO ["_law_script"]:=⟨f,fd,F,m,F.binds fun _ _ _ _ _ _ us hl=>by obtain ⟨a0,rfl⟩:=len_1 us hl; rfl⟩
end
theorem all_mk {l:PySem.W.OpenLaw} {w:World} {K:PySem.W.Frag} {h:Heap} {mg:Str->Option Value} {fa:Addr} (X:K.In h) (G:h.Ns mainGlobals mg) (XN:mg "law"=some (.ref fa))
  {f1 f2 f3 f4 f5 f6 f7 f8 f9 XO XQ XR XS XT XU XW XX XY XZ X0 X1 X2 X3 X4 X5 X6 X7 X8 X9 Yb Yc Yd Ye:Addr} {Yg Yh Yi Yj Yk Yl Ym Yn Yo Yp Yq Yr Ys Yt Yu Yv Yw Yx Qm Qn Qo Qp Qq Qr Qs Qt Qu Qv Qw Qx Qy QA QB QC QD QE QG QH QI QJ QK QL QM QN QO QP QR QS QT QU QV QW QX QY QZ Q0 Q3 Q4 Q5 Q6 Q7 Q8 Q9 Ra Rb Nq:Option Addr} {Pe E4 Yy Yz YA YB YC YD YE Rc Rf Rg Rh Ri Rj Rk Rl Rm Rn Ro Rp Rq Rr Rt Ru Rv Rw Rx Ry Rz RA RB RC:Array (Option Value)} {YF YG YH YI YJ YK YL YM YN YO YQ YR YS YT YU YV YW YX YY YZ Y0 Y1 Y2 Y3 Y4 Y5 Y6 Y7 Y8 Y9 Za Zb Zc Zd Ze Zf Zg Zh Zi Zj Zk Zl Zm Zn Zo Zp Zq Zr Zs Zt Zu Zv Zw Zx RD RE RF RG RH RI RJ RK RL RM RN RO RP RQ RR RS RT RU RV RW RX RY RZ R5 R6 R7 R8 R9 Sa Sb Sd Se Sf Sg Sh Si Sj Sk Sl Sm Sn So Sq Sr Ss Su Sv Sw Sx Sy SA SD SE SF SG SH SI SJ SK SM SN SO SQ SR SS SU SV SW SX SY S0 S4 S5 S6 S7 S8 S9 Ta Tb Tc Td Te Tf Tg Th Ti Tj To Tp Tq Tr Ts Tt Tu Tw Tx Tz TB TC TF TH TJ TK TL TM TN TQ TR TU TV TX TY TZ T1 T2 T3 T4 T5 T6 T7 T8 T9 Ua Ub Uc Ud Ue Ug Uh Ui Uj Uk Ul Um Uo Up Uq Ur Us Nr Nt Nu Nv Nw:Value}
  (q1:QF K "frac" kZ f1 Yg Yh Pe YF YG YH YI YJ YK)
  (q2:QF K "plus" k7 f2 Yi Yj E4 YL YM YN YO YQ YR)
  (q3:QF K "minus" jb f3 Yk Yl Yy YS YT YU YV YW YX)
  (q4:QF K "times" jc f4 Ym Yn Yz YY YZ Y0 Y1 Y2 Y3)
  (q5:QF K "over" k8 f5 Yo Yp YA Y4 Y5 Y6 Y7 Y8 Y9)
  (q6:QF K "power" jd f6 Yq Yr YB Za Zb Zc Zd Ze Zf)
  (q7:QF K "greatest_divisor" bB f7 Ys Yt YC Zg Zh Zi Zj Zk Zl)
  (q8:QF K "leap" k9 f8 Yu Yv YD Zm Zn Zo Zp Zq Zr)
  (q9:QF K "goes_on" fu f9 Yw Yx YE Zs Zt Zu Zv Zw Zx)
  (q10:QF K "come_to" eE XO Qm Qn Rc RD RE RF RG RH RI)
  (q11:QF K "ends" jM XQ Qo Qp Rf RJ RK RL RM RN RO)
  (q12:QF K "drawn_on" dH XR Qq Qr Rg RP RQ RR RS RT RU)
  (q13:QF K "led_to" fN XS Qs Qt Rh RV RW RX RY RZ R5)
  (q14:QF K "after" jf XT Qu Qv Ri R6 R7 R8 R9 Sa Sb)
  (q15:QF K "ways_from" dJ XU Qw Qx Rj Sd Se Sf Sg Sh Si)
  (q16:QF K "rows_of" eF XW Qy QA Rk Sj Sk Sl Sm Sn So)
  (q17:QF K "end_of" gR XX QB QC Rl Sq Sr Ss Su Sv Sw)
  (q18:QF K "rows_behind" cA XY QD QE Rm Sx Sy SA SD SE SF)
  (q19:QF K "averaged" dM XZ QG QH Rn SG SH SI SJ SK SM)
  (q20:QF K "left_within" cg X0 QI QJ Ro SN SO SQ SR SS SU)
  (q21:QF K "left_in" eG X1 QK QL Rp SV SW SX SY S0 S4)
  (q22:QF K "by_end" fO X2 QM QN Rq S5 S6 S7 S8 S9 Ta)
  (q23:QF K "sum_of_all" cV X3 QO QP Rr Tb Tc Td Te Tf Tg)
  (q24:QF K "_law_cell" eh X4 QR QS Rt Th Ti Tj To Tp Tq)
  (q25:QF K "_law_digits" cW X5 QT QU Ru Tr Ts Tt Tu Tw Tx)
  (q26:QF K "_law_mixes" dN X6 QV QW Rv Tz TB TC TF TH TJ)
  (q27:QF K "_law_plan" cX X7 QX QY Rw TK TL TM TN TQ TR)
  (q28:QF K "_law_most" el X8 QZ Q0 Rx TU TV TX TY TZ T1)
  (q29:QF K "_law_ends" cY X9 Q3 Q4 Ry T2 T3 T4 T5 T6 T7)
  (q30:QF K "_law_ways" eu Yb Q5 Q6 Rz T8 T9 Ua Ub Uc Ud)
  (q31:QF K "_law_word" dP Yc Q7 Q8 RA Ue Ug Uh Ui Uj Uk)
  (q32:QF K "_law_asked" dQ Yd Q9 Ra RB Ul Um Uo Up Uq Ur)
  (q33:QF K "law" iO Ye Rb Nq RC Us Nr Nt Nu Nv Nw)
  {Ny:Tok} (aLONG:PySem.W.nsIn K mainGlobals "LONG"=some (some (.int 4000 Ny)))
  {GW:Tok} (aWINDOW:PySem.W.nsIn K mainGlobals "WINDOW"=some (some (.int 240 GW)))
  {Nz:Tok} (aSHED:PySem.W.nsIn K mainGlobals "SHED"=some (some (.int 120 Nz)))
  {ib:Addr} {Eu:Option Addr} {Ew:Array (Option Value)} {GX:Nat} {Ex Ey:Tok} (aNOUGHT:PySem.W.nsIn K mainGlobals "NOUGHT"=some (some (.ref ib))) (lNOUGHT:K.lookup ib=some ⟨.type "tuple",Eu,.seq #[.int (0) Ex,.int (1) Ey] GX,Ew⟩)
  {yp:Tok} (aMOST_ROWS:PySem.W.nsIn K mainGlobals "MOST_ROWS"=some (some (.int 4000 yp)))
  (z_len:PySem.W.nsIn K mainGlobals "len"=some none)
  (z_range:PySem.W.nsIn K mainGlobals "range"=some none)
  (z_isinstance:PySem.W.nsIn K mainGlobals "isinstance"=some none)
  (z_max:PySem.W.nsIn K mainGlobals "max"=some none)
  (z_min:PySem.W.nsIn K mainGlobals "min"=some none)
  (z_int:PySem.W.nsIn K mainGlobals "int"=some none)
  (z_bool:PySem.W.nsIn K mainGlobals "bool"=some none)
  (z_tuple:PySem.W.nsIn K mainGlobals "tuple"=some none)
  (z_list:PySem.W.nsIn K mainGlobals "list"=some none)
  (z_abs:PySem.W.nsIn K mainGlobals "abs"=some none)
  (z_str:PySem.W.nsIn K mainGlobals "str"=some none)
  (z_sum:PySem.W.nsIn K mainGlobals "sum"=some none)
  (z_sorted:PySem.W.nsIn K mainGlobals "sorted"=some none)
  (z_reversed:PySem.W.nsIn K mainGlobals "reversed"=some none)
  (z_enumerate:PySem.W.nsIn K mainGlobals "enumerate"=some none)
  (z_set:PySem.W.nsIn K mainGlobals "set"=some none)
  (z_all:PySem.W.nsIn K mainGlobals "all"=some none)
  (z_zip:PySem.W.nsIn K mainGlobals "zip"=some none)
  (z_any:PySem.W.nsIn K mainGlobals "any"=some none)
  (ct:bY=[(ib,[V.int (0),V.int (1)])])
  {vW:Addr} (aTooMany:PySem.W.nsIn K mainGlobals "TooMany"=some (some (.ref vW)))
  (qxTooMany:PySem.W.excIn (bz K) vW VE "ValueError.__new__"=true)
  {qa:Addr} (aNoTelling:PySem.W.nsIn K mainGlobals "NoTelling"=some (some (.ref qa)))
  (qxNoTelling:PySem.W.excIn (bz K) qa VE "ValueError.__new__"=true)
  {cL:Addr} (aL:PySem.W.nsIn K mainGlobals "LotError"=some (some (.ref cL)))
  (zE:PySem.W.nsIn K mainGlobals "ValueError"=some none)
  (qc:xw (bz K) cL eO sR=true)
  :lR K /\ ∃ fd:FuncData,(∀ (s:Shared) (v:Value),BindsTo s fd ⟨[v],[]⟩ [("_law_script",v)]) /\ ∀ base:Heap,(bz K).In base->base.Ns mainGlobals mg->nI l.prog w (bz K) mg base v8 33 fa fd ["_law_script"] (eK (bz K) 1 rK):=by
 have e:=XN.symm.trans (PySem.W.mg_of X G q33.a)
 cases e
 have C:lR K:=⟨(fun p xs m=>by rw [ct] at m ⊢; simp only [List.mem_cons,List.not_mem_nil,or_false,Prod.mk.injEq] at m; rcases m with ⟨rfl,rfl⟩ <;> simp [List.lookup_cons, *]),(fun p xs m=>by have m:=CN m; rw [ct] at m; simp only [List.mem_cons,List.not_mem_nil,or_false,Prod.mk.injEq] at m; rcases m with ⟨rfl,rfl⟩ <;> first | exact ⟨_,_,_,_,lNOUGHT,(by show 2<=sizeLine; decide),(.cons ⟨_,rfl⟩ (.cons ⟨_,rfl⟩ .nil))⟩)⟩
 have KC:Df (bz K) mg "frac" kZ ["top","bottom"]:=GP (C.func (bg (st:=kZ) q1.l q1.c q1.k)) (PySem.W.mg_of X G q1.a)
 have KD:Df (bz K) mg "plus" k7 ["one","other"]:=GQ (C.func (bg (st:=k7) q2.l q2.c q2.k)) (PySem.W.mg_of X G q2.a)
 have GY:Df (bz K) mg "minus" jb ["one","other"]:=Ep (C.func (bg (st:=jb) q3.l q3.c q3.k)) (PySem.W.mg_of X G q3.a)
 have GZ:Df (bz K) mg "times" jc ["one","other"]:=Er (C.func (bg (st:=jc) q4.l q4.c q4.k)) (PySem.W.mg_of X G q4.a)
 have KE:Df (bz K) mg "over" k8 ["one","other"]:=GS (C.func (bg (st:=k8) q5.l q5.c q5.k)) (PySem.W.mg_of X G q5.a)
 have G0:Df (bz K) mg "power" jd ["one","many"]:=Es (C.func (bg (st:=jd) q6.l q6.c q6.k)) (PySem.W.mg_of X G q6.a)
 have lp:Df (bz K) mg "greatest_divisor" bB ["one","other"]:=kg (C.func (bg (st:=bB) q7.l q7.c q7.k)) (PySem.W.mg_of X G q7.a)
 have KG:Df (bz K) mg "leap" k9 ["one","other"]:=GU (C.func (bg (st:=k9) q8.l q8.c q8.k)) (PySem.W.mg_of X G q8.a)
 have Bg:Df (bz K) mg "goes_on" fu ["plan","count"]:=yk (C.func (bg (st:=fu) q9.l q9.c q9.k)) (PySem.W.mg_of X G q9.a)
 have Bh:Df (bz K) mg "come_to" eE ["plan"]:=ym (C.func (bg (st:=eE) q10.l q10.c q10.k)) (PySem.W.mg_of X G q10.a)
 have KH:Df (bz K) mg "ends" jM ["plan"]:=GV (C.func (bg (st:=jM) q11.l q11.c q11.k)) (PySem.W.mg_of X G q11.a)
 have yq:Df (bz K) mg "drawn_on" dH ["plan"]:=vO (C.func (bg (st:=dH) q12.l q12.c q12.k)) (PySem.W.mg_of X G q12.a)
 have Ez:Df (bz K) mg "led_to" fN ["place"]:=Bd (C.func (bg (st:=fN) q13.l q13.c q13.k)) (PySem.W.mg_of X G q13.a)
 have G1:Df (bz K) mg "after" jf ["count","sign"]:=Et (C.func (bg (st:=jf) q14.l q14.c q14.k)) (PySem.W.mg_of X G q14.a)
 have vX:Df (bz K) mg "ways_from" dJ ["plan","beginning"]:=tP (C.func (bg (st:=dJ) q15.l q15.c q15.k)) (PySem.W.mg_of X G q15.a)
 have Bi:Df (bz K) mg "rows_of" eF ["plan"]:=yn (C.func (bg (st:=eF) q16.l q16.c q16.k)) (PySem.W.mg_of X G q16.a)
 have EA:Df (bz K) mg "end_of" gR ["plan","row"]:=Be (C.func (bg (st:=gR) q17.l q17.c q17.k)) (PySem.W.mg_of X G q17.a)
 have qI:Df (bz K) mg "rows_behind" cA ["plan","row","count"]:=p8 (C.func (bg (st:=cA) q18.l q18.c q18.k)) (PySem.W.mg_of X G q18.a)
 have yr:Df (bz K) mg "averaged" dM ["plan","telling"]:=vP (C.func (bg (st:=dM) q19.l q19.c q19.k)) (PySem.W.mg_of X G q19.a)
 have qJ:Df (bz K) mg "left_within" cg ["plan","telling"]:=p9 (C.func (bg (st:=cg) q20.l q20.c q20.k)) (PySem.W.mg_of X G q20.a)
 have Bj:Df (bz K) mg "left_in" eG ["group"]:=yo (C.func (bg (st:=eG) q21.l q21.c q21.k)) (PySem.W.mg_of X G q21.a)
 have EB:Df (bz K) mg "by_end" fO ["plan","telling"]:=Bf (C.func (bg (st:=fO) q22.l q22.c q22.k)) (PySem.W.mg_of X G q22.a)
 have tU:Df (bz K) mg "sum_of_all" cV ["fractions"]:=qG (C.func (bg (st:=cV) q23.l q23.c q23.k)) (PySem.W.mg_of X G q23.a)
 have yt:Df (bz K) mg "_law_cell" eh ["_law_script","_law_k"]:=vQ (C.func (bg (st:=eh) q24.l q24.c q24.k)) (PySem.W.mg_of X G q24.a)
 have tV:Df (bz K) mg "_law_digits" cW ["_law_cell_here","_law_base","_law_many"]:=qH (C.func (bg (st:=cW) q25.l q25.c q25.k)) (PySem.W.mg_of X G q25.a)
 have vY:Df (bz K) mg "_law_mixes" dN ["_law_cell_here","_law_base","_law_many"]:=tQ (C.func (bg (st:=dN) q26.l q26.c q26.k)) (PySem.W.mg_of X G q26.a)
 have yu:Df (bz K) mg "_law_plan" cX ["_law_cell_here","_law_most_here"]:=vR (C.func (bg (st:=cX) q27.l q27.c q27.k)) (PySem.W.mg_of X G q27.a)
 have yw:Df (bz K) mg "_law_most" el ["_law_cell_here"]:=vS (C.func (bg (st:=el) q28.l q28.c q28.k)) (PySem.W.mg_of X G q28.a)
 have yx:Df (bz K) mg "_law_ends" cY ["_law_plan_here"]:=vT (C.func (bg (st:=cY) q29.l q29.c q29.k)) (PySem.W.mg_of X G q29.a)
 have yy:Df (bz K) mg "_law_ways" eu ["_law_plan_here"]:=vU (C.func (bg (st:=eu) q30.l q30.c q30.k)) (PySem.W.mg_of X G q30.a)
 have yz:Df (bz K) mg "_law_word" dP ["_law_e"]:=vV (C.func (bg (st:=dP) q31.l q31.c q31.k)) (PySem.W.mg_of X G q31.a)
 have vZ:Df (bz K) mg "_law_asked" dQ ["_law_plan_here","_law_telling","_law_way"]:=tR (C.func (bg (st:=dQ) q32.l q32.c q32.k)) (PySem.W.mg_of X G q32.a)
 have VF:Df (bz K) mg "law" iO ["_law_script"]:=KA (C.func (bg (st:=iO) q33.l q33.c q33.k)) (PySem.W.mg_of X G q33.a)
 have ye:Cn mg "LONG" (.int 4000):=⟨_,PySem.W.mg_of X G aLONG,⟨_,rfl⟩⟩
 have pW:Cn mg "WINDOW" (.int 240):=⟨_,PySem.W.mg_of X G aWINDOW,⟨_,rfl⟩⟩
 have yd:Cn mg "SHED" (.int 120):=⟨_,PySem.W.mg_of X G aSHED,⟨_,rfl⟩⟩
 have p5:Cn mg "NOUGHT" (.ref ib):=⟨_,PySem.W.mg_of X G aNOUGHT,rfl⟩
 have p6:(ib,[V.int (0),V.int (1)])∈bY:=by rw [ct]; simp
 have jN:Cn mg "MOST_ROWS" (.int 4000):=⟨_,PySem.W.mg_of X G aMOST_ROWS,⟨_,rfl⟩⟩
 have B:Bs mg:=⟨PySem.W.mg_none_of X G z_len,PySem.W.mg_none_of X G z_range,PySem.W.mg_none_of X G z_isinstance,PySem.W.mg_none_of X G z_max,PySem.W.mg_none_of X G z_min,PySem.W.mg_none_of X G z_int,PySem.W.mg_none_of X G z_bool,PySem.W.mg_none_of X G z_tuple,PySem.W.mg_none_of X G z_list,PySem.W.mg_none_of X G z_abs,PySem.W.mg_none_of X G z_str,PySem.W.mg_none_of X G z_sum,PySem.W.mg_none_of X G z_sorted,PySem.W.mg_none_of X G z_reversed,PySem.W.mg_none_of X G z_enumerate,PySem.W.mg_none_of X G z_set,PySem.W.mg_none_of X G z_all,PySem.W.mg_none_of X G z_zip,PySem.W.mg_none_of X G z_any⟩
 have iP:∃ C tl,JP (bz K) mg "TooMany" C VE tl "ValueError.__new__":=⟨_,C6 (PySem.W.mg_of X G aTooMany) qxTooMany⟩
 have fP:∃ C tl,JP (bz K) mg "NoTelling" C VE tl "ValueError.__new__":=⟨_,C6 (PySem.W.mg_of X G aNoTelling) qxNoTelling⟩
 have mL:=PySem.W.mg_of X G aL
 have Qk:=PySem.W.mg_none_of X G zE
 have CT:=FU (zi X) G qc
 have Ql:=FV qc
 have CE:=FW (zi X) G qc
 refine ⟨C,PySem.W.fnOf "law" "law" (iQ iO) (cD iO) (ao iO) .none Nr Nt Nu Nq Nv Nw,fun s v=>.of_eq rfl,fun base _ _=>?_⟩
 have yf:=GJ (P:=l.prog) (w:=w) (base:=base) KG B pW yd
 have bL:=kf (P:=l.prog) (w:=w) (base:=base) lp B ye yf
 have iu:=GK (P:=l.prog) (w:=w) (base:=base) KC B bL
 have m7:=GL (P:=l.prog) (w:=w) (base:=base) KD B iu bL
 have tK:=Ek (P:=l.prog) (w:=w) (base:=base) GY B m7
 have tF:=El (P:=l.prog) (w:=w) (base:=base) GZ B iu
 have ng:=GN (P:=l.prog) (w:=w) (base:=base) KE B iu tF
 have oj:=Em (P:=l.prog) (w:=w) (base:=base) G0 B
 have da:=yg (P:=l.prog) (w:=w) (base:=base) Bg B
 have pX:=Bb (P:=l.prog) (w:=w) (base:=base) Ez B
 have m8:=yh (P:=l.prog) (w:=w) (base:=base) Bh B pX
 have m9:=GO (P:=l.prog) (w:=w) (base:=base) KH B m8 da
 have la:=vH (P:=l.prog) (w:=w) (base:=base) yq B
 have eW:=En (P:=l.prog) (w:=w) (base:=base) G1 B
 have jO:=tH (P:=l.prog) (w:=w) (base:=base) vX B eW la
 have de:=pY (P:=l.prog) (w:=w) (base:=base) qI B eW da
 have lb:=vI (P:=l.prog) (w:=w) (base:=base) Bi B jN iP m9 de jO
 have pZ:=Bc (P:=l.prog) (w:=w) (base:=base) EA B eW da
 have gG:=yi (P:=l.prog) (w:=w) (base:=base) EB B fP pZ m9 lb
 have cZ:=qE (P:=l.prog) (w:=w) (base:=base) tU B p5 p6 m7
 have jR:=tJ (P:=l.prog) (w:=w) (base:=base) yr B gG ng cZ
 have nh:=yj (P:=l.prog) (w:=w) (base:=base) Bj B tK ng oj cZ
 have gT:=nP (P:=l.prog) (w:=w) (base:=base) qJ B gG nh
 have jh:=vJ (P:=l.prog) (w:=w) (base:=base) yt B
 have jg:=qF (P:=l.prog) (w:=w) (base:=base) tV B
 have jP:=tL (P:=l.prog) (w:=w) (base:=base) vY B
 have lj:=vK (P:=l.prog) (w:=w) (base:=base) yu B jg jP
 have lh:=vL (P:=l.prog) (w:=w) (base:=base) yw B
 have lg:=vM (P:=l.prog) (w:=w) (base:=base) yx B
 have ll:=vN (P:=l.prog) (w:=w) (base:=base) yy B
 have jQ:=tM (P:=l.prog) (w:=w) (base:=base) yz B CT Qk Ql
 have jS:=tO (P:=l.prog) (w:=w) (base:=base) vZ B mL CE jQ jR gT
 exact Kz (P:=l.prog) (w:=w) (base:=base) (C.func (bg (st:=iO) q33.l q33.c q33.k)) B jS jh lg lh lj ll
theorem walk {l:PySem.W.OpenLaw} {q:Program} {loose:List Str} {XP:(Str->Option Value)->Heap->Prop} {YP:World->Heap->Prop} {d:DefRec} {K:Params->PySem.W.Frag} (hn:l.most=some 63) (LW:d.params.defaults=[])
  (hY:∀ (w:World) (h:Heap),YP w h->(K w.params).In h)
  (F:∀ (w:World) (mg:Str->Option Value) (fa:Addr) (h:Heap),(K w.params).In h->h.Ns mainGlobals mg->mg d.name=some (.ref fa)->
   lR (K w.params) /\ ∃ fd:FuncData,(∀ (s:Shared) (u:Value),BindsTo s fd ⟨[u],[]⟩ [("_law_script",u)]) /\ ∀ base:Heap,(bz (K w.params)).In base->base.Ns mainGlobals mg->nI l.prog w (bz (K w.params)) mg base v8 33 fa fd ["_law_script"] (eK (bz (K w.params)) 1 rK)):
  PySem.W.WalkO q loose XP YP l.row.toRowW d [] (fun f vs=>PySem.call f vs):=
 L2.CO (n:=63) (k:=33) (x:="_law_script") (CX:=fun _=>v8) (sp:=fun w=>eK (bz (K w.params)) 1 rK) hn (by decide) LW ⟨rfl,by decide,by decide⟩ hY F (fun _ _ a ns hl hS hT=>⟨rfl,[],[.list (ns.map PyData.int)],.bool true,⟨fun _ z=>by simp at z,hT⟩,by rw [B5]; exact .cons (.lst hS (cy.ints ns)) .nil,Eh ns hl,fun v H' _ h=>by cases h; rfl⟩) fun _ _ _ _ _ z=>z
end aG
open PySem PySem.W PyProof.Rows
set_option tactic.hygienic true
set_option maxRecDepth 100000 in
set_option maxHeartbeats 0 in
theorem PySem.Challenge.cw_lotdraw_k43_tellings_refused_holds : PySem.Challenge.rw_lotdraw_k43_tellings_refused.Holds := by
 w_on; o_law
 refine PySem.W.holds_open (q:=aG.t6) (loose:=[]) (Xt:=aG.Ut) (XP:=XL aG.t6 []) (Yf:=Hook.obs (kHook aG.Lb aG.Lc aG.Br)) (Ya:=Hook.val (kHook aG.Lb aG.Lc aG.Br)) (YP:=Hook.says (kHook aG.Lb aG.Lc aG.Br)) (N:=9068) (Hd.zL ?h1 rfl (fun _=>rfl) aG.EM aG.EN) (Hook.of _) (Hook.keeps _) (fun s e=>xl_of s (Bool.and_eq_true_iff.mp e).1) XL.keeps (by rfl) (by rfl) (by rfl) (fun s e=>recFacts_of (Bool.and_eq_true_iff.mp e).2) rfl (by first | assumption | decide +kernel) (by decide +kernel) ⟨rfl,rfl,rfl,rfl,rfl,by decide +kernel⟩ ?hw ?hc
 case h1=>kernel_rfl
 case hw=>w_witness2
 k_fill
 refine aG.walk (l:=PySem.Challenge.rw_lotdraw_k43_tellings_refused) rfl rfl (fun w h Y=>PySem.W.kIn_of Y) ?F
 case F=>
  intro w mg fa h KX G LX
  refine' aG.all_mk KX G LX ?q1 ?q2 ?q3 ?q4 ?q5 ?q6 ?q7 ?q8 ?q9 ?q10 ?q11 ?q12 ?q13 ?q14 ?q15 ?q16 ?q17 ?q18 ?q19 ?q20 ?q21 ?q22 ?q23 ?q24 ?q25 ?q26 ?q27 ?q28 ?q29 ?q30 ?q31 ?q32 ?q33 ?aLONG ?aWINDOW ?aSHED ?aNOUGHT ?lNOUGHT ?aMOST_ROWS ?z_len ?z_range ?z_isinstance ?z_max ?z_min ?z_int ?z_bool ?z_tuple ?z_list ?z_abs ?z_str ?z_sum ?z_sorted ?z_reversed ?z_enumerate ?z_set ?z_all ?z_zip ?z_any ?ct ?aTooMany ?qxTooMany ?aNoTelling ?qxNoTelling ?aL ?zE ?qc
  (case q1=>refine' ⟨?x,?y,?z,?t⟩; (case x=>k_is); (case y=>k_is); (case z=>k_is); (case t=>k_is))
  (case q2=>refine' ⟨?x,?y,?z,?t⟩; (case x=>k_is); (case y=>k_is); (case z=>k_is); (case t=>k_is))
  (case q3=>refine' ⟨?x,?y,?z,?t⟩; (case x=>k_is); (case y=>k_is); (case z=>k_is); (case t=>k_is))
  (case q4=>refine' ⟨?x,?y,?z,?t⟩; (case x=>k_is); (case y=>k_is); (case z=>k_is); (case t=>k_is))
  (case q5=>refine' ⟨?x,?y,?z,?t⟩; (case x=>k_is); (case y=>k_is); (case z=>k_is); (case t=>k_is))
  (case q6=>refine' ⟨?x,?y,?z,?t⟩; (case x=>k_is); (case y=>k_is); (case z=>k_is); (case t=>k_is))
  (case q7=>refine' ⟨?x,?y,?z,?t⟩; (case x=>k_is); (case y=>k_is); (case z=>k_is); (case t=>k_is))
  (case q8=>refine' ⟨?x,?y,?z,?t⟩; (case x=>k_is); (case y=>k_is); (case z=>k_is); (case t=>k_is))
  (case q9=>refine' ⟨?x,?y,?z,?t⟩; (case x=>k_is); (case y=>k_is); (case z=>k_is); (case t=>k_is))
  (case q10=>refine' ⟨?x,?y,?z,?t⟩; (case x=>k_is); (case y=>k_is); (case z=>k_is); (case t=>k_is))
  (case q11=>refine' ⟨?x,?y,?z,?t⟩; (case x=>k_is); (case y=>k_is); (case z=>k_is); (case t=>k_is))
  (case q12=>refine' ⟨?x,?y,?z,?t⟩; (case x=>k_is); (case y=>k_is); (case z=>k_is); (case t=>k_is))
  (case q13=>refine' ⟨?x,?y,?z,?t⟩; (case x=>k_is); (case y=>k_is); (case z=>k_is); (case t=>k_is))
  (case q14=>refine' ⟨?x,?y,?z,?t⟩; (case x=>k_is); (case y=>k_is); (case z=>k_is); (case t=>k_is))
  (case q15=>refine' ⟨?x,?y,?z,?t⟩; (case x=>k_is); (case y=>k_is); (case z=>k_is); (case t=>k_is))
  (case q16=>refine' ⟨?x,?y,?z,?t⟩; (case x=>k_is); (case y=>k_is); (case z=>k_is); (case t=>k_is))
  (case q17=>refine' ⟨?x,?y,?z,?t⟩; (case x=>k_is); (case y=>k_is); (case z=>k_is); (case t=>k_is))
  (case q18=>refine' ⟨?x,?y,?z,?t⟩; (case x=>k_is); (case y=>k_is); (case z=>k_is); (case t=>k_is))
  (case q19=>refine' ⟨?x,?y,?z,?t⟩; (case x=>k_is); (case y=>k_is); (case z=>k_is); (case t=>k_is))
  (case q20=>refine' ⟨?x,?y,?z,?t⟩; (case x=>k_is); (case y=>k_is); (case z=>k_is); (case t=>k_is))
  (case q21=>refine' ⟨?x,?y,?z,?t⟩; (case x=>k_is); (case y=>k_is); (case z=>k_is); (case t=>k_is))
  (case q22=>refine' ⟨?x,?y,?z,?t⟩; (case x=>k_is); (case y=>k_is); (case z=>k_is); (case t=>k_is))
  (case q23=>refine' ⟨?x,?y,?z,?t⟩; (case x=>k_is); (case y=>k_is); (case z=>k_is); (case t=>k_is))
  (case q24=>refine' ⟨?x,?y,?z,?t⟩; (case x=>k_is); (case y=>k_is); (case z=>k_is); (case t=>k_is))
  (case q25=>refine' ⟨?x,?y,?z,?t⟩; (case x=>k_is); (case y=>k_is); (case z=>k_is); (case t=>k_is))
  (case q26=>refine' ⟨?x,?y,?z,?t⟩; (case x=>k_is); (case y=>k_is); (case z=>k_is); (case t=>k_is))
  (case q27=>refine' ⟨?x,?y,?z,?t⟩; (case x=>k_is); (case y=>k_is); (case z=>k_is); (case t=>k_is))
  (case q28=>refine' ⟨?x,?y,?z,?t⟩; (case x=>k_is); (case y=>k_is); (case z=>k_is); (case t=>k_is))
  (case q29=>refine' ⟨?x,?y,?z,?t⟩; (case x=>k_is); (case y=>k_is); (case z=>k_is); (case t=>k_is))
  (case q30=>refine' ⟨?x,?y,?z,?t⟩; (case x=>k_is); (case y=>k_is); (case z=>k_is); (case t=>k_is))
  (case q31=>refine' ⟨?x,?y,?z,?t⟩; (case x=>k_is); (case y=>k_is); (case z=>k_is); (case t=>k_is))
  (case q32=>refine' ⟨?x,?y,?z,?t⟩; (case x=>k_is); (case y=>k_is); (case z=>k_is); (case t=>k_is))
  (case q33=>refine' ⟨?x,?y,?z,?t⟩; (case x=>k_is); (case y=>k_is); (case z=>k_is); (case t=>k_is))
  (case aLONG=>k_is)
  (case aWINDOW=>k_is)
  (case aSHED=>k_is)
  (case aNOUGHT=>k_is)
  (case lNOUGHT=>k_is)
  (case aMOST_ROWS=>k_is)
  (case z_len=>kernel_rfl)
  (case z_range=>kernel_rfl)
  (case z_isinstance=>kernel_rfl)
  (case z_max=>kernel_rfl)
  (case z_min=>kernel_rfl)
  (case z_int=>kernel_rfl)
  (case z_bool=>kernel_rfl)
  (case z_tuple=>kernel_rfl)
  (case z_list=>kernel_rfl)
  (case z_abs=>kernel_rfl)
  (case z_str=>kernel_rfl)
  (case z_sum=>kernel_rfl)
  (case z_sorted=>kernel_rfl)
  (case z_reversed=>kernel_rfl)
  (case z_enumerate=>kernel_rfl)
  (case z_set=>kernel_rfl)
  (case z_all=>kernel_rfl)
  (case z_zip=>kernel_rfl)
  (case z_any=>kernel_rfl)
  (case ct=>rfl)
  (case aTooMany=>k_is)
  (case qxTooMany=>kernel_rfl)
  (case aNoTelling=>k_is)
  (case qxNoTelling=>kernel_rfl)
  (case aL=>k_is)
  (case zE=>kernel_rfl)
  (case qc=>kernel_rfl)
end
