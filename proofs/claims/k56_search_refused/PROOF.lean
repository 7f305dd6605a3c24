import PyProof.Rows.All
import Wide.All
import OpenK.AllK
import Wide.FinOn
import Lean
import PyProof.EqAt
import PyProof.EqKinds
import PyProof.TupleCall
import PySem.Challenge.RW_lotdraw_k56_search_refused
set_option Elab.async false
set_option linter.all false
set_option maxRecDepth 100000
set_option tactic.hygienic false
namespace L2
open PySem
noncomputable def defArgs (s:Stmt):Arguments:=match s with
 | .FunctionDef _ a _ _ _ _ _ _ _ _=>a
 | _=>{ posonlyargs:=[],args:=[],vararg:=none,kwonlyargs:=[],kw_defaults:=[],kwarg:=none,defaults:=[] }
noncomputable def defBody (s:Stmt):List Stmt:=match s with
 | .FunctionDef _ _ b _ _ _ _ _ _ _=>b
 | _=>[]
noncomputable def defScope (s:Stmt):Scope:=match s with
 | .FunctionDef _ _ _ _ _ _ sc _ _ _=>sc
 | _=>{ kind:=.function,names:=[],isGenerator:=false,isCoroutine:=false }
end L2
namespace Hd
open PySem PySem.W
noncomputable def runT (tb:String->Option Builtin) (p:Program) (w:World) (m:Nat) (ann:Option Value):Nat->SharedT->Thread->Option SharedT
 | 0,_,_=>none
 | n + 1,s,t=>match through t with
   | true=>some s
   | false=>match stepOk m ann t with
     | false=>none
     | true=>match stepT (denote tb) p w s t with
       | some (s',t')=>runT tb p w m ann n s' t'
       | none=>none
theorem ziu {tb:String->Option Builtin} {p:Program} {w:World} {m:Nat} {ann:Option Value}:∀ {n:Nat} {s s':SharedT} {t:Thread},runT tb p w m ann n s t=some s'->topRun tb p w m ann n s.abs t=some s'.abs
 | 0,_,_,_,h=>by cases h
 | n + 1,s,s',t,h=>by
   unfold runT at h
   unfold topRun
   cases he:through t with
   | true=>rw [he] at h; cases h; rfl
   | false=>
     rw [he] at h
     cases hk:stepOk m ann t with
     | false=>rw [hk] at h; cases h
     | true=>
       rw [hk] at h
       cases hs:stepT (denote tb) p w s t with
       | none=>rw [hs] at h; cases h
       | some r=>obtain ⟨s2,t2⟩:=r; rw [hs] at h; rw [stepT_spec hs]; exact ziu h
noncomputable def bootT (P:Params):BT:=(.node (boot_o_0 P) (.node (boot_o_1 P) (.node (boot_o_3 P) (.node (boot_o_7 P) .nil .nil) .nil) (.node (boot_o_5 P) (.node (boot_o_9 P) .nil .nil) .nil)) (.node (boot_o_2 P) (.node (boot_o_4 P) (.node (boot_o_8 P) .nil .nil) .nil) (.node (boot_o_6 P) (.node (boot_o_10 P) .nil .nil) .nil)))
theorem zkA (P:Params):boot_heap P=absHeap (bootT P) 11 (boot_heap P).life:=by kernel_rfl
noncomputable def bootS (w:World) (os:OsState):SharedT:=⟨bootT w.params,11,(boot_heap w.params).life,Array.mk [],boot_drawn,boot_toks,os⟩
theorem zmF (w:World) (os:OsState):(bootS w os).abs=⟨boot_heap w.params,Array.mk [],boot_drawn,boot_toks,os⟩:=by
 show Shared.mk (absHeap (bootT w.params) 11 (boot_heap w.params).life) _ _ _ _=_
 rw [<- zkA]; rfl
theorem zhX (P:Params):((boot_heap P).isNs mainGlobals,(boot_heap P).objs.size,(boot_heap P).nsMap mainGlobals "__annotations__")=(true,11,some (.ref 6)):=by kernel_rfl
theorem zjt {p q:Program} {loose:List Str} {Xt:Shared->Bool} {α:Type} {Yf:Shared->α} {Ya:World->α} {N:Nat} (e:opening p=plainProg p.main.scope.names) (hN:Nat.ble 600 N=true) (f:∀ s,fenceModules? p s=some s)
  (one:∀ (w:World) (os:OsState),(runT treeTable p w 11 (some (.ref 6)) N (bootS w os) (topStub p)).map (fun s=>((staticsOk (importedModules p.main.body) (boot_heap w.params) s.abs.heap && namesBound p s.abs.heap && gensDone s.abs && laidKept (boot_heap w.params) s.abs.heap),Yf s.abs))=some (true,Ya w))
  (two:∀ (w:World) (os:OsState),(runT treeTable p w 11 (some (.ref 6)) N (bootS w os) (topStub p)).map (fun s=>openSeen q loose (importedModules p.main.body) Xt true s.abs)=some (openGood q loose)):
  LeftO p q loose Xt Yf Ya N:=fun w=>by
 obtain ⟨⟨h,gs,d,k,os⟩,e1,e2⟩:=Option.map_eq_some_iff.mp (boot_open e hN f w)
 obtain ⟨rfl,rfl,rfl,rfl⟩:h=boot_heap w.params /\ gs=Array.mk [] /\ d=boot_drawn /\ k=boot_toks:=by simpa using e2
 obtain ⟨s,r,l⟩:=Option.map_eq_some_iff.mp (one w os)
 obtain ⟨l1,l3⟩:_ /\ _:=by simpa only [Prod.mk.injEq] using l
 have l2:openSeen q loose (importedModules p.main.body) Xt true s.abs=openGood q loose:=by
  have:=two w os
  rw [r] at this
  exact Option.some.inj this
 obtain ⟨z1,z2,z3⟩:_ /\ _ /\ _:=by simpa only [Prod.mk.injEq] using zhX w.params
 have r':=ziu r
 rw [zmF] at r'
 have t:topFrom treeTable p w N ⟨boot_heap w.params,Array.mk [],boot_drawn,boot_toks,os⟩=some s.abs:=by
  unfold topFrom
  dsimp only
  rw [z1,z2,z3,r']
  show (match staticsOk (importedModules p.main.body) (boot_heap w.params) s.abs.heap && namesBound p s.abs.heap && gensDone s.abs && laidKept (boot_heap w.params) s.abs.heap with | true=>_ | false=>_)=_
  rw [l1]
 unfold openEnds
 rw [e1]
 show (topFrom treeTable p w N ⟨boot_heap w.params,Array.mk [],boot_drawn,boot_toks,os⟩).map _=_
 rw [t,Option.map_some,l2,l3]
end Hd
namespace MyLaw
open PySem PySem.W L2
noncomputable def top (i:Nat):Stmt:=PySem.Challenge.pw_lotdraw_k56_search_refused.main.body.getD i (.Pass ⟨0,0,0,0⟩)
end MyLaw
namespace MyLaw
open PySem PySem.W L2
noncomputable def viewP:Program:={ PySem.Challenge.pw_lotdraw_k56_search_refused with main:={ PySem.Challenge.pw_lotdraw_k56_search_refused.main with body:=[top 1,top 2,top 3,top 4,top 5,top 6,top 7,top 8,top 9,top 10,top 11,top 12,top 13,top 14,top 15,top 16,top 18,top 19,top 20,top 21,top 22,top 23,top 24,top 25,top 26,top 27,top 29,top 30,top 31,top 32,top 33,top 34,top 35,top 36,top 37,top 39,top 41,top 42,top 43,top 44,top 46,top 47,top 49,top 50,top 51,top 53,top 54,top 55,top 56,top 57,top 58,top 59,top 60,top 61] } }
noncomputable def hpK:Params->Frag:=fun P=>(nat_lit 2,⟨.none,none,(.dict #[] 0),#[]⟩) ::
 (nat_lit 3,⟨(.type "dict"),none,(.dict #[⟨(PyData.keyHash P "__name__"),(.str "__name__" 165),(.str "law_lotdraw_k56_search_refused" 675)⟩,⟨(PyData.keyHash P "__doc__"),(.str "__doc__" 166),.none⟩,⟨(PyData.keyHash P "__package__"),(.str "__package__" 167),.none⟩,⟨(PyData.keyHash P "__loader__"),(.str "__loader__" 168),(.builtin "__main__.__loader__#opaque")⟩,⟨(PyData.keyHash P "__spec__"),(.str "__spec__" 169),.none⟩,⟨(PyData.keyHash P "__annotations__"),(.str "__annotations__" 170),(.ref 6)⟩,⟨(PyData.keyHash P "__builtins__"),(.str "__builtins__" 171),(.ref 4)⟩,⟨(PyData.keyHash P "__file__"),(.str "__file__" 173),(.str "/claim/cut.py" 172)⟩,⟨(PyData.keyHash P "__cached__"),(.str "__cached__" 174),.none⟩,⟨(PyData.keyHash P "LotError"),(.str "LotError" 206),(.ref 24)⟩,⟨(PyData.keyHash P "NoNumber"),(.str "NoNumber" 222),(.ref 37)⟩,⟨(PyData.keyHash P "NoPlan"),(.str "NoPlan" 238),(.ref 49)⟩,⟨(PyData.keyHash P "TooLong"),(.str "TooLong" 254),(.ref 61)⟩,⟨(PyData.keyHash P "NoText"),(.str "NoText" 270),(.ref 73)⟩,⟨(PyData.keyHash P "NoEnd"),(.str "NoEnd" 286),(.ref 85)⟩,⟨(PyData.keyHash P "TooMany"),(.str "TooMany" 302),(.ref 97)⟩,⟨(PyData.keyHash P "NoRow"),(.str "NoRow" 318),(.ref 109)⟩,⟨(PyData.keyHash P "NoTelling"),(.str "NoTelling" 334),(.ref 121)⟩,⟨(PyData.keyHash P "NoLot"),(.str "NoLot" 350),(.ref 133)⟩,⟨(PyData.keyHash P "NotOnly"),(.str "NotOnly" 366),(.ref 145)⟩,⟨(PyData.keyHash P "Only"),(.str "Only" 382),(.ref 157)⟩,⟨(PyData.keyHash P "NoShares"),(.str "NoShares" 398),(.ref 169)⟩,⟨(PyData.keyHash P "NoDeed"),(.str "NoDeed" 414),(.ref 181)⟩,⟨(PyData.keyHash P "NoName"),(.str "NoName" 430),(.ref 193)⟩,⟨(PyData.keyHash P "NoDraw"),(.str "NoDraw" 446),(.ref 205)⟩,⟨(PyData.keyHash P "LONG"),(.str "LONG" 450),(.int 4000 449)⟩,⟨(PyData.keyHash P "WINDOW"),(.str "WINDOW" 452),(.int 240 451)⟩,⟨(PyData.keyHash P "SHED"),(.str "SHED" 454),(.int 120 453)⟩,⟨(PyData.keyHash P "frac"),(.str "frac" 463),(.ref 214)⟩,⟨(PyData.keyHash P "plus"),(.str "plus" 475),(.ref 221)⟩,⟨(PyData.keyHash P "minus"),(.str "minus" 483),(.ref 228)⟩,⟨(PyData.keyHash P "power"),(.str "power" 494),(.ref 235)⟩,⟨(PyData.keyHash P "under"),(.str "under" 502),(.ref 242)⟩,⟨(PyData.keyHash P "greatest_divisor"),(.str "greatest_divisor" 512),(.ref 249)⟩,⟨(PyData.keyHash P "leap"),(.str "leap" 525),(.ref 256)⟩,⟨(PyData.keyHash P "MOST_PLACES"),(.str "MOST_PLACES" 529),(.int 24 528)⟩,⟨(PyData.keyHash P "goes_on"),(.str "goes_on" 538),(.ref 263)⟩,⟨(PyData.keyHash P "come_to"),(.str "come_to" 544),(.ref 268)⟩,⟨(PyData.keyHash P "ends"),(.str "ends" 550),(.ref 273)⟩,⟨(PyData.keyHash P "drawn_on"),(.str "drawn_on" 556),(.ref 278)⟩,⟨(PyData.keyHash P "plan_while"),(.str "plan_while" 562),(.ref 283)⟩,⟨(PyData.keyHash P "led_to"),(.str "led_to" 568),(.ref 288)⟩,⟨(PyData.keyHash P "after"),(.str "after" 576),(.ref 295)⟩,⟨(PyData.keyHash P "NOUGHT"),(.str "NOUGHT" 579),(.ref 296)⟩,⟨(PyData.keyHash P "ways_from"),(.str "ways_from" 593),(.ref 303)⟩,⟨(PyData.keyHash P "WHOLE"),(.str "WHOLE" 598),(.ref 304)⟩,⟨(PyData.keyHash P "check_shares"),(.str "check_shares" 606),(.ref 311)⟩,⟨(PyData.keyHash P "check_most"),(.str "check_most" 613),(.ref 318)⟩,⟨(PyData.keyHash P "often"),(.str "often" 623),(.ref 325)⟩,⟨(PyData.keyHash P "so_many"),(.str "so_many" 633),(.ref 332)⟩,⟨(PyData.keyHash P "check"),(.str "check" 640),(.ref 339)⟩,⟨(PyData.keyHash P "least_plan"),(.str "least_plan" 658),(.ref 346)⟩,⟨(PyData.keyHash P "tops_by_bad"),(.str "tops_by_bad" 664),(.ref 351)⟩,⟨(PyData.keyHash P "keeps"),(.str "keeps" 674),(.ref 358)⟩,⟨(PyData.keyHash P "_law_cell"),(.str "_law_cell" 684),(.ref 365)⟩,⟨(PyData.keyHash P "_law_digits"),(.str "_law_digits" 695),(.ref 372)⟩,⟨(PyData.keyHash P "_law_mixes"),(.str "_law_mixes" 707),(.ref 379)⟩,⟨(PyData.keyHash P "_law_numbers"),(.str "_law_numbers" 713),(.ref 384)⟩,⟨(PyData.keyHash P "_law_word"),(.str "_law_word" 719),(.ref 389)⟩,⟨(PyData.keyHash P "_law_lowest"),(.str "_law_lowest" 729),(.ref 396)⟩,⟨(PyData.keyHash P "_law_answer"),(.str "_law_answer" 742),(.ref 403)⟩,⟨(PyData.keyHash P "_law_due"),(.str "_law_due" 754),(.ref 410)⟩,⟨(PyData.keyHash P "law"),(.str "law" 769),(.ref 417)⟩] 63),#[]⟩) ::
 (nat_lit 23,⟨(.type "dict"),none,(.dict #[⟨(PyData.keyHash P "__module__"),(.str "__module__" 196),(.str "lotdraw.errors" 187)⟩,⟨(PyData.keyHash P "__firstlineno__"),(.str "__firstlineno__" 200),(.int 2 199)⟩,⟨(PyData.keyHash P "__static_attributes__"),(.str "__static_attributes__" 201),(.ref 22)⟩,⟨(PyData.keyHash P "__weakref__"),(.str "__weakref__" 203),(.ref 25)⟩,⟨(PyData.keyHash P "__doc__"),(.str "__doc__" 204),.none⟩] 3),#[]⟩) ::
 (nat_lit 24,⟨(.type "type"),none,(.cls ⟨"LotError",[(.type "ValueError")],[(.ref 24),(.type "ValueError"),(.type "Exception"),(.type "BaseException"),(.type "object")],23,"LotError",true,[],[(.ref 37),(.ref 49),(.ref 61),(.ref 73),(.ref 85),(.ref 97),(.ref 109),(.ref 121),(.ref 133),(.ref 145),(.ref 157),(.ref 169),(.ref 181),(.ref 193),(.ref 205)],false,none,false⟩),#[(some (.ref 15)),none,(some (.str "LotError" 189)),(some (.str "LotError" 197)),(some (.builtin "ValueError.__new__")),(some (.bool true))]⟩) ::
 (nat_lit 25,⟨(.type "getset_descriptor"),none,(.fields #[(.str "__weakref__" 202),(.ref 24),(.builtin "ExceptionGroup.__weakref__"),.none]),#[]⟩) ::
 (nat_lit 36,⟨(.type "dict"),none,(.dict #[⟨(PyData.keyHash P "__module__"),(.str "__module__" 214),(.str "lotdraw.errors" 187)⟩,⟨(PyData.keyHash P "__firstlineno__"),(.str "__firstlineno__" 218),(.int 4 217)⟩,⟨(PyData.keyHash P "__static_attributes__"),(.str "__static_attributes__" 219),(.ref 35)⟩,⟨(PyData.keyHash P "__doc__"),(.str "__doc__" 220),.none⟩] 2),#[]⟩) ::
 (nat_lit 37,⟨(.type "type"),none,(.cls ⟨"NoNumber",[(.ref 24)],[(.ref 37),(.ref 24),(.type "ValueError"),(.type "Exception"),(.type "BaseException"),(.type "object")],36,"NoNumber",true,[],[],false,none,false⟩),#[(some (.ref 28)),none,(some (.str "NoNumber" 207)),(some (.str "NoNumber" 215)),(some (.builtin "ValueError.__new__")),(some (.bool true))]⟩) ::
 (nat_lit 48,⟨(.type "dict"),none,(.dict #[⟨(PyData.keyHash P "__module__"),(.str "__module__" 230),(.str "lotdraw.errors" 187)⟩,⟨(PyData.keyHash P "__firstlineno__"),(.str "__firstlineno__" 234),(.int 6 233)⟩,⟨(PyData.keyHash P "__static_attributes__"),(.str "__static_attributes__" 235),(.ref 47)⟩,⟨(PyData.keyHash P "__doc__"),(.str "__doc__" 236),.none⟩] 2),#[]⟩) ::
 (nat_lit 49,⟨(.type "type"),none,(.cls ⟨"NoPlan",[(.ref 24)],[(.ref 49),(.ref 24),(.type "ValueError"),(.type "Exception"),(.type "BaseException"),(.type "object")],48,"NoPlan",true,[],[],false,none,false⟩),#[(some (.ref 40)),none,(some (.str "NoPlan" 223)),(some (.str "NoPlan" 231)),(some (.builtin "ValueError.__new__")),(some (.bool true))]⟩) ::
 (nat_lit 60,⟨(.type "dict"),none,(.dict #[⟨(PyData.keyHash P "__module__"),(.str "__module__" 246),(.str "lotdraw.errors" 187)⟩,⟨(PyData.keyHash P "__firstlineno__"),(.str "__firstlineno__" 250),(.int 8 249)⟩,⟨(PyData.keyHash P "__static_attributes__"),(.str "__static_attributes__" 251),(.ref 59)⟩,⟨(PyData.keyHash P "__doc__"),(.str "__doc__" 252),.none⟩] 2),#[]⟩) ::
 (nat_lit 61,⟨(.type "type"),none,(.cls ⟨"TooLong",[(.ref 24)],[(.ref 61),(.ref 24),(.type "ValueError"),(.type "Exception"),(.type "BaseException"),(.type "object")],60,"TooLong",true,[],[],false,none,false⟩),#[(some (.ref 52)),none,(some (.str "TooLong" 239)),(some (.str "TooLong" 247)),(some (.builtin "ValueError.__new__")),(some (.bool true))]⟩) ::
 (nat_lit 72,⟨(.type "dict"),none,(.dict #[⟨(PyData.keyHash P "__module__"),(.str "__module__" 262),(.str "lotdraw.errors" 187)⟩,⟨(PyData.keyHash P "__firstlineno__"),(.str "__firstlineno__" 266),(.int 10 265)⟩,⟨(PyData.keyHash P "__static_attributes__"),(.str "__static_attributes__" 267),(.ref 71)⟩,⟨(PyData.keyHash P "__doc__"),(.str "__doc__" 268),.none⟩] 2),#[]⟩) ::
 (nat_lit 73,⟨(.type "type"),none,(.cls ⟨"NoText",[(.ref 24)],[(.ref 73),(.ref 24),(.type "ValueError"),(.type "Exception"),(.type "BaseException"),(.type "object")],72,"NoText",true,[],[],false,none,false⟩),#[(some (.ref 64)),none,(some (.str "NoText" 255)),(some (.str "NoText" 263)),(some (.builtin "ValueError.__new__")),(some (.bool true))]⟩) ::
 (nat_lit 84,⟨(.type "dict"),none,(.dict #[⟨(PyData.keyHash P "__module__"),(.str "__module__" 278),(.str "lotdraw.errors" 187)⟩,⟨(PyData.keyHash P "__firstlineno__"),(.str "__firstlineno__" 282),(.int 12 281)⟩,⟨(PyData.keyHash P "__static_attributes__"),(.str "__static_attributes__" 283),(.ref 83)⟩,⟨(PyData.keyHash P "__doc__"),(.str "__doc__" 284),.none⟩] 2),#[]⟩) ::
 (nat_lit 85,⟨(.type "type"),none,(.cls ⟨"NoEnd",[(.ref 24)],[(.ref 85),(.ref 24),(.type "ValueError"),(.type "Exception"),(.type "BaseException"),(.type "object")],84,"NoEnd",true,[],[],false,none,false⟩),#[(some (.ref 76)),none,(some (.str "NoEnd" 271)),(some (.str "NoEnd" 279)),(some (.builtin "ValueError.__new__")),(some (.bool true))]⟩) ::
 (nat_lit 96,⟨(.type "dict"),none,(.dict #[⟨(PyData.keyHash P "__module__"),(.str "__module__" 294),(.str "lotdraw.errors" 187)⟩,⟨(PyData.keyHash P "__firstlineno__"),(.str "__firstlineno__" 298),(.int 14 297)⟩,⟨(PyData.keyHash P "__static_attributes__"),(.str "__static_attributes__" 299),(.ref 95)⟩,⟨(PyData.keyHash P "__doc__"),(.str "__doc__" 300),.none⟩] 2),#[]⟩) ::
 (nat_lit 97,⟨(.type "type"),none,(.cls ⟨"TooMany",[(.ref 24)],[(.ref 97),(.ref 24),(.type "ValueError"),(.type "Exception"),(.type "BaseException"),(.type "object")],96,"TooMany",true,[],[],false,none,false⟩),#[(some (.ref 88)),none,(some (.str "TooMany" 287)),(some (.str "TooMany" 295)),(some (.builtin "ValueError.__new__")),(some (.bool true))]⟩) ::
 (nat_lit 108,⟨(.type "dict"),none,(.dict #[⟨(PyData.keyHash P "__module__"),(.str "__module__" 310),(.str "lotdraw.errors" 187)⟩,⟨(PyData.keyHash P "__firstlineno__"),(.str "__firstlineno__" 314),(.int 16 313)⟩,⟨(PyData.keyHash P "__static_attributes__"),(.str "__static_attributes__" 315),(.ref 107)⟩,⟨(PyData.keyHash P "__doc__"),(.str "__doc__" 316),.none⟩] 2),#[]⟩) ::
 (nat_lit 109,⟨(.type "type"),none,(.cls ⟨"NoRow",[(.ref 24)],[(.ref 109),(.ref 24),(.type "ValueError"),(.type "Exception"),(.type "BaseException"),(.type "object")],108,"NoRow",true,[],[],false,none,false⟩),#[(some (.ref 100)),none,(some (.str "NoRow" 303)),(some (.str "NoRow" 311)),(some (.builtin "ValueError.__new__")),(some (.bool true))]⟩) ::
 (nat_lit 120,⟨(.type "dict"),none,(.dict #[⟨(PyData.keyHash P "__module__"),(.str "__module__" 326),(.str "lotdraw.errors" 187)⟩,⟨(PyData.keyHash P "__firstlineno__"),(.str "__firstlineno__" 330),(.int 18 329)⟩,⟨(PyData.keyHash P "__static_attributes__"),(.str "__static_attributes__" 331),(.ref 119)⟩,⟨(PyData.keyHash P "__doc__"),(.str "__doc__" 332),.none⟩] 2),#[]⟩) ::
 (nat_lit 121,⟨(.type "type"),none,(.cls ⟨"NoTelling",[(.ref 24)],[(.ref 121),(.ref 24),(.type "ValueError"),(.type "Exception"),(.type "BaseException"),(.type "object")],120,"NoTelling",true,[],[],false,none,false⟩),#[(some (.ref 112)),none,(some (.str "NoTelling" 319)),(some (.str "NoTelling" 327)),(some (.builtin "ValueError.__new__")),(some (.bool true))]⟩) ::
 (nat_lit 132,⟨(.type "dict"),none,(.dict #[⟨(PyData.keyHash P "__module__"),(.str "__module__" 342),(.str "lotdraw.errors" 187)⟩,⟨(PyData.keyHash P "__firstlineno__"),(.str "__firstlineno__" 346),(.int 20 345)⟩,⟨(PyData.keyHash P "__static_attributes__"),(.str "__static_attributes__" 347),(.ref 131)⟩,⟨(PyData.keyHash P "__doc__"),(.str "__doc__" 348),.none⟩] 2),#[]⟩) ::
 (nat_lit 133,⟨(.type "type"),none,(.cls ⟨"NoLot",[(.ref 24)],[(.ref 133),(.ref 24),(.type "ValueError"),(.type "Exception"),(.type "BaseException"),(.type "object")],132,"NoLot",true,[],[],false,none,false⟩),#[(some (.ref 124)),none,(some (.str "NoLot" 335)),(some (.str "NoLot" 343)),(some (.builtin "ValueError.__new__")),(some (.bool true))]⟩) ::
 (nat_lit 144,⟨(.type "dict"),none,(.dict #[⟨(PyData.keyHash P "__module__"),(.str "__module__" 358),(.str "lotdraw.errors" 187)⟩,⟨(PyData.keyHash P "__firstlineno__"),(.str "__firstlineno__" 362),(.int 22 361)⟩,⟨(PyData.keyHash P "__static_attributes__"),(.str "__static_attributes__" 363),(.ref 143)⟩,⟨(PyData.keyHash P "__doc__"),(.str "__doc__" 364),.none⟩] 2),#[]⟩) ::
 (nat_lit 145,⟨(.type "type"),none,(.cls ⟨"NotOnly",[(.ref 24)],[(.ref 145),(.ref 24),(.type "ValueError"),(.type "Exception"),(.type "BaseException"),(.type "object")],144,"NotOnly",true,[],[],false,none,false⟩),#[(some (.ref 136)),none,(some (.str "NotOnly" 351)),(some (.str "NotOnly" 359)),(some (.builtin "ValueError.__new__")),(some (.bool true))]⟩) ::
 (nat_lit 156,⟨(.type "dict"),none,(.dict #[⟨(PyData.keyHash P "__module__"),(.str "__module__" 374),(.str "lotdraw.errors" 187)⟩,⟨(PyData.keyHash P "__firstlineno__"),(.str "__firstlineno__" 378),(.int 24 377)⟩,⟨(PyData.keyHash P "__static_attributes__"),(.str "__static_attributes__" 379),(.ref 155)⟩,⟨(PyData.keyHash P "__doc__"),(.str "__doc__" 380),.none⟩] 2),#[]⟩) ::
 (nat_lit 157,⟨(.type "type"),none,(.cls ⟨"Only",[(.ref 24)],[(.ref 157),(.ref 24),(.type "ValueError"),(.type "Exception"),(.type "BaseException"),(.type "object")],156,"Only",true,[],[],false,none,false⟩),#[(some (.ref 148)),none,(some (.str "Only" 367)),(some (.str "Only" 375)),(some (.builtin "ValueError.__new__")),(some (.bool true))]⟩) ::
 (nat_lit 168,⟨(.type "dict"),none,(.dict #[⟨(PyData.keyHash P "__module__"),(.str "__module__" 390),(.str "lotdraw.errors" 187)⟩,⟨(PyData.keyHash P "__firstlineno__"),(.str "__firstlineno__" 394),(.int 26 393)⟩,⟨(PyData.keyHash P "__static_attributes__"),(.str "__static_attributes__" 395),(.ref 167)⟩,⟨(PyData.keyHash P "__doc__"),(.str "__doc__" 396),.none⟩] 2),#[]⟩) ::
 (nat_lit 169,⟨(.type "type"),none,(.cls ⟨"NoShares",[(.ref 24)],[(.ref 169),(.ref 24),(.type "ValueError"),(.type "Exception"),(.type "BaseException"),(.type "object")],168,"NoShares",true,[],[],false,none,false⟩),#[(some (.ref 160)),none,(some (.str "NoShares" 383)),(some (.str "NoShares" 391)),(some (.builtin "ValueError.__new__")),(some (.bool true))]⟩) ::
 (nat_lit 180,⟨(.type "dict"),none,(.dict #[⟨(PyData.keyHash P "__module__"),(.str "__module__" 406),(.str "lotdraw.errors" 187)⟩,⟨(PyData.keyHash P "__firstlineno__"),(.str "__firstlineno__" 410),(.int 28 409)⟩,⟨(PyData.keyHash P "__static_attributes__"),(.str "__static_attributes__" 411),(.ref 179)⟩,⟨(PyData.keyHash P "__doc__"),(.str "__doc__" 412),.none⟩] 2),#[]⟩) ::
 (nat_lit 181,⟨(.type "type"),none,(.cls ⟨"NoDeed",[(.ref 24)],[(.ref 181),(.ref 24),(.type "ValueError"),(.type "Exception"),(.type "BaseException"),(.type "object")],180,"NoDeed",true,[],[],false,none,false⟩),#[(some (.ref 172)),none,(some (.str "NoDeed" 399)),(some (.str "NoDeed" 407)),(some (.builtin "ValueError.__new__")),(some (.bool true))]⟩) ::
 (nat_lit 192,⟨(.type "dict"),none,(.dict #[⟨(PyData.keyHash P "__module__"),(.str "__module__" 422),(.str "lotdraw.errors" 187)⟩,⟨(PyData.keyHash P "__firstlineno__"),(.str "__firstlineno__" 426),(.int 30 425)⟩,⟨(PyData.keyHash P "__static_attributes__"),(.str "__static_attributes__" 427),(.ref 191)⟩,⟨(PyData.keyHash P "__doc__"),(.str "__doc__" 428),.none⟩] 2),#[]⟩) ::
 (nat_lit 193,⟨(.type "type"),none,(.cls ⟨"NoName",[(.ref 24)],[(.ref 193),(.ref 24),(.type "ValueError"),(.type "Exception"),(.type "BaseException"),(.type "object")],192,"NoName",true,[],[],false,none,false⟩),#[(some (.ref 184)),none,(some (.str "NoName" 415)),(some (.str "NoName" 423)),(some (.builtin "ValueError.__new__")),(some (.bool true))]⟩) ::
 (nat_lit 204,⟨(.type "dict"),none,(.dict #[⟨(PyData.keyHash P "__module__"),(.str "__module__" 438),(.str "lotdraw.errors" 187)⟩,⟨(PyData.keyHash P "__firstlineno__"),(.str "__firstlineno__" 442),(.int 32 441)⟩,⟨(PyData.keyHash P "__static_attributes__"),(.str "__static_attributes__" 443),(.ref 203)⟩,⟨(PyData.keyHash P "__doc__"),(.str "__doc__" 444),.none⟩] 2),#[]⟩) ::
 (nat_lit 205,⟨(.type "type"),none,(.cls ⟨"NoDraw",[(.ref 24)],[(.ref 205),(.ref 24),(.type "ValueError"),(.type "Exception"),(.type "BaseException"),(.type "object")],204,"NoDraw",true,[],[],false,none,false⟩),#[(some (.ref 196)),none,(some (.str "NoDraw" 431)),(some (.str "NoDraw" 439)),(some (.builtin "ValueError.__new__")),(some (.bool true))]⟩) ::
 (nat_lit 213,⟨(.type "code"),none,(.fields #[(.str "frac" 455),(.str "frac" 456),(.str "/claim/cut.py" 457),(.int 38 0),(.int 2 0),(.int 0 0),(.int 0 0),(.int 3 0),(.ref 208),(.bool true),(.int 181 0),(.ref 209),.none,(.ref 210),(.ref 211),(.ref 212),(.int 461 0),(.int 38 0),(.str "/claim/cut.py" 462)]),#[]⟩) ::
 (nat_lit 214,⟨(.type "function"),none,.func (fnOf "frac" "frac" (defArgs (top 21)) (defBody (top 21)) (defScope (top 21)) .none .none .none (.str "lotdraw.fracs" 447) none (.ref 213) .none),#[]⟩) ::
 (nat_lit 220,⟨(.type "code"),none,(.fields #[(.str "plus" 464),(.str "plus" 465),(.str "/claim/cut.py" 466),(.int 45 0),(.int 2 0),(.int 0 0),(.int 0 0),(.int 3 0),(.ref 215),(.bool true),(.int 181 0),(.ref 216),.none,(.ref 217),(.ref 218),(.ref 219),(.int 473 0),(.int 45 0),(.str "/claim/cut.py" 474)]),#[]⟩) ::
 (nat_lit 221,⟨(.type "function"),none,.func (fnOf "plus" "plus" (defArgs (top 22)) (defBody (top 22)) (defScope (top 22)) .none .none .none (.str "lotdraw.fracs" 447) none (.ref 220) .none),#[]⟩) ::
 (nat_lit 227,⟨(.type "code"),none,(.fields #[(.str "minus" 476),(.str "minus" 477),(.str "/claim/cut.py" 478),(.int 51 0),(.int 2 0),(.int 0 0),(.int 0 0),(.int 3 0),(.ref 222),(.bool true),(.int 181 0),(.ref 223),.none,(.ref 224),(.ref 225),(.ref 226),(.int 481 0),(.int 51 0),(.str "/claim/cut.py" 482)]),#[]⟩) ::
 (nat_lit 228,⟨(.type "function"),none,.func (fnOf "minus" "minus" (defArgs (top 23)) (defBody (top 23)) (defScope (top 23)) .none .none .none (.str "lotdraw.fracs" 447) none (.ref 227) .none),#[]⟩) ::
 (nat_lit 234,⟨(.type "code"),none,(.fields #[(.str "power" 484),(.str "power" 485),(.str "/claim/cut.py" 486),(.int 53 0),(.int 2 0),(.int 0 0),(.int 0 0),(.int 3 0),(.ref 229),(.bool true),(.int 181 0),(.ref 230),.none,(.ref 231),(.ref 232),(.ref 233),(.int 492 0),(.int 53 0),(.str "/claim/cut.py" 493)]),#[]⟩) ::
 (nat_lit 235,⟨(.type "function"),none,.func (fnOf "power" "power" (defArgs (top 24)) (defBody (top 24)) (defScope (top 24)) .none .none .none (.str "lotdraw.fracs" 447) none (.ref 234) .none),#[]⟩) ::
 (nat_lit 241,⟨(.type "code"),none,(.fields #[(.str "under" 495),(.str "under" 496),(.str "/claim/cut.py" 497),(.int 60 0),(.int 2 0),(.int 0 0),(.int 0 0),(.int 3 0),(.ref 236),(.bool true),(.int 181 0),(.ref 237),.none,(.ref 238),(.ref 239),(.ref 240),(.int 500 0),(.int 60 0),(.str "/claim/cut.py" 501)]),#[]⟩) ::
 (nat_lit 242,⟨(.type "function"),none,.func (fnOf "under" "under" (defArgs (top 25)) (defBody (top 25)) (defScope (top 25)) .none .none .none (.str "lotdraw.fracs" 447) none (.ref 241) .none),#[]⟩) ::
 (nat_lit 248,⟨(.type "code"),none,(.fields #[(.str "greatest_divisor" 503),(.str "greatest_divisor" 504),(.str "/claim/cut.py" 505),(.int 62 0),(.int 2 0),(.int 0 0),(.int 0 0),(.int 3 0),(.ref 243),(.bool true),(.int 181 0),(.ref 244),.none,(.ref 245),(.ref 246),(.ref 247),(.int 510 0),(.int 62 0),(.str "/claim/cut.py" 511)]),#[]⟩) ::
 (nat_lit 249,⟨(.type "function"),none,.func (fnOf "greatest_divisor" "greatest_divisor" (defArgs (top 26)) (defBody (top 26)) (defScope (top 26)) .none .none .none (.str "lotdraw.fracs" 447) none (.ref 248) .none),#[]⟩) ::
 (nat_lit 255,⟨(.type "code"),none,(.fields #[(.str "leap" 513),(.str "leap" 514),(.str "/claim/cut.py" 515),(.int 74 0),(.int 2 0),(.int 0 0),(.int 0 0),(.int 3 0),(.ref 250),(.bool true),(.int 181 0),(.ref 251),.none,(.ref 252),(.ref 253),(.ref 254),(.int 523 0),(.int 74 0),(.str "/claim/cut.py" 524)]),#[]⟩) ::
 (nat_lit 256,⟨(.type "function"),none,.func (fnOf "leap" "leap" (defArgs (top 27)) (defBody (top 27)) (defScope (top 27)) .none .none .none (.str "lotdraw.fracs" 447) none (.ref 255) .none),#[]⟩) ::
 (nat_lit 262,⟨(.type "code"),none,(.fields #[(.str "goes_on" 530),(.str "goes_on" 531),(.str "/claim/cut.py" 532),(.int 86 0),(.int 2 0),(.int 0 0),(.int 0 0),(.int 3 0),(.ref 257),(.bool true),(.int 181 0),(.ref 258),.none,(.ref 259),(.ref 260),(.ref 261),(.int 536 0),(.int 86 0),(.str "/claim/cut.py" 537)]),#[]⟩) ::
 (nat_lit 263,⟨(.type "function"),none,.func (fnOf "goes_on" "goes_on" (defArgs (top 30)) (defBody (top 30)) (defScope (top 30)) .none .none .none (.str "lotdraw.plans" 526) none (.ref 262) .none),#[]⟩) ::
 (nat_lit 267,⟨(.type "code"),none,(.fields #[(.str "come_to" 539),(.str "come_to" 540),(.str "/claim/cut.py" 541),(.int 89 0),(.int 1 0),(.int 0 0),(.int 0 0),(.int 3 0),(.ref 264),(.bool true),(.int 181 0),(.ref 265),.none,.none,.none,(.ref 266),(.int 542 0),(.int 89 0),(.str "/claim/cut.py" 543)]),#[]⟩) ::
 (nat_lit 268,⟨(.type "function"),none,.func (fnOf "come_to" "come_to" (defArgs (top 31)) (defBody (top 31)) (defScope (top 31)) .none .none .none (.str "lotdraw.plans" 526) none (.ref 267) .none),#[]⟩) ::
 (nat_lit 272,⟨(.type "code"),none,(.fields #[(.str "ends" 545),(.str "ends" 546),(.str "/claim/cut.py" 547),(.int 94 0),(.int 1 0),(.int 0 0),(.int 0 0),(.int 3 0),(.ref 269),(.bool true),(.int 181 0),(.ref 270),.none,.none,.none,(.ref 271),(.int 548 0),(.int 94 0),(.str "/claim/cut.py" 549)]),#[]⟩) ::
 (nat_lit 273,⟨(.type "function"),none,.func (fnOf "ends" "ends" (defArgs (top 32)) (defBody (top 32)) (defScope (top 32)) .none .none .none (.str "lotdraw.plans" 526) none (.ref 272) .none),#[]⟩) ::
 (nat_lit 277,⟨(.type "code"),none,(.fields #[(.str "drawn_on" 551),(.str "drawn_on" 552),(.str "/claim/cut.py" 553),(.int 96 0),(.int 1 0),(.int 0 0),(.int 0 0),(.int 3 0),(.ref 274),(.bool true),(.int 181 0),(.ref 275),.none,.none,.none,(.ref 276),(.int 554 0),(.int 96 0),(.str "/claim/cut.py" 555)]),#[]⟩) ::
 (nat_lit 278,⟨(.type "function"),none,.func (fnOf "drawn_on" "drawn_on" (defArgs (top 33)) (defBody (top 33)) (defScope (top 33)) .none .none .none (.str "lotdraw.plans" 526) none (.ref 277) .none),#[]⟩) ::
 (nat_lit 282,⟨(.type "code"),none,(.fields #[(.str "plan_while" 557),(.str "plan_while" 558),(.str "/claim/cut.py" 559),(.int 101 0),(.int 1 0),(.int 0 0),(.int 0 0),(.int 3 0),(.ref 279),(.bool true),(.int 181 0),(.ref 280),.none,.none,.none,(.ref 281),(.int 560 0),(.int 101 0),(.str "/claim/cut.py" 561)]),#[]⟩) ::
 (nat_lit 283,⟨(.type "function"),none,.func (fnOf "plan_while" "plan_while" (defArgs (top 34)) (defBody (top 34)) (defScope (top 34)) .none .none .none (.str "lotdraw.plans" 526) none (.ref 282) .none),#[]⟩) ::
 (nat_lit 287,⟨(.type "code"),none,(.fields #[(.str "led_to" 563),(.str "led_to" 564),(.str "/claim/cut.py" 565),(.int 113 0),(.int 1 0),(.int 0 0),(.int 0 0),(.int 3 0),(.ref 284),(.bool true),(.int 181 0),(.ref 285),.none,.none,.none,(.ref 286),(.int 566 0),(.int 113 0),(.str "/claim/cut.py" 567)]),#[]⟩) ::
 (nat_lit 288,⟨(.type "function"),none,.func (fnOf "led_to" "led_to" (defArgs (top 35)) (defBody (top 35)) (defScope (top 35)) .none .none .none (.str "lotdraw.plans" 526) none (.ref 287) .none),#[]⟩) ::
 (nat_lit 294,⟨(.type "code"),none,(.fields #[(.str "after" 569),(.str "after" 570),(.str "/claim/cut.py" 571),(.int 115 0),(.int 2 0),(.int 0 0),(.int 0 0),(.int 3 0),(.ref 289),(.bool true),(.int 181 0),(.ref 290),.none,(.ref 291),(.ref 292),(.ref 293),(.int 574 0),(.int 115 0),(.str "/claim/cut.py" 575)]),#[]⟩) ::
 (nat_lit 295,⟨(.type "function"),none,.func (fnOf "after" "after" (defArgs (top 36)) (defBody (top 36)) (defScope (top 36)) .none .none .none (.str "lotdraw.plans" 526) none (.ref 294) .none),#[]⟩) ::
 (nat_lit 296,⟨(.type "tuple"),none,(.seq #[(.int 0 577),(.int 1 578)] 0),#[]⟩) ::
 (nat_lit 302,⟨(.type "code"),none,(.fields #[(.str "ways_from" 582),(.str "ways_from" 583),(.str "/claim/cut.py" 584),(.int 121 0),(.int 2 0),(.int 0 0),(.int 0 0),(.int 3 0),(.ref 297),(.bool true),(.int 181 0),(.ref 298),.none,(.ref 299),(.ref 300),(.ref 301),(.int 591 0),(.int 121 0),(.str "/claim/cut.py" 592)]),#[]⟩) ::
 (nat_lit 303,⟨(.type "function"),none,.func (fnOf "ways_from" "ways_from" (defArgs (top 39)) (defBody (top 39)) (defScope (top 39)) .none .none .none (.str "lotdraw.ways" 580) none (.ref 302) .none),#[]⟩) ::
 (nat_lit 304,⟨(.type "tuple"),none,(.seq #[(.int 1 596),(.int 1 597)] 0),#[]⟩) ::
 (nat_lit 310,⟨(.type "code"),none,(.fields #[(.str "check_shares" 599),(.str "check_shares" 600),(.str "/claim/cut.py" 601),(.int 130 0),(.int 2 0),(.int 0 0),(.int 0 0),(.int 3 0),(.ref 305),(.bool true),(.int 181 0),(.ref 306),.none,(.ref 307),(.ref 308),(.ref 309),(.int 604 0),(.int 130 0),(.str "/claim/cut.py" 605)]),#[]⟩) ::
 (nat_lit 311,⟨(.type "function"),none,.func (fnOf "check_shares" "check_shares" (defArgs (top 42)) (defBody (top 42)) (defScope (top 42)) .none .none .none (.str "lotdraw.rules" 594) none (.ref 310) .none),#[]⟩) ::
 (nat_lit 317,⟨(.type "code"),none,(.fields #[(.str "check_most" 607),(.str "check_most" 608),(.str "/claim/cut.py" 609),(.int 133 0),(.int 1 0),(.int 0 0),(.int 0 0),(.int 3 0),(.ref 312),(.bool true),(.int 181 0),(.ref 313),.none,(.ref 314),(.ref 315),(.ref 316),(.int 611 0),(.int 133 0),(.str "/claim/cut.py" 612)]),#[]⟩) ::
 (nat_lit 318,⟨(.type "function"),none,.func (fnOf "check_most" "check_most" (defArgs (top 43)) (defBody (top 43)) (defScope (top 43)) .none .none .none (.str "lotdraw.rules" 594) none (.ref 317) .none),#[]⟩) ::
 (nat_lit 324,⟨(.type "code"),none,(.fields #[(.str "often" 614),(.str "often" 615),(.str "/claim/cut.py" 616),(.int 136 0),(.int 2 0),(.int 0 0),(.int 0 0),(.int 3 0),(.ref 319),(.bool true),(.int 181 0),(.ref 320),.none,(.ref 321),(.ref 322),(.ref 323),(.int 621 0),(.int 136 0),(.str "/claim/cut.py" 622)]),#[]⟩) ::
 (nat_lit 325,⟨(.type "function"),none,.func (fnOf "often" "often" (defArgs (top 44)) (defBody (top 44)) (defScope (top 44)) .none .none .none (.str "lotdraw.rules" 594) none (.ref 324) .none),#[]⟩) ::
 (nat_lit 331,⟨(.type "code"),none,(.fields #[(.str "so_many" 626),(.str "so_many" 627),(.str "/claim/cut.py" 628),(.int 141 0),(.int 1 0),(.int 0 0),(.int 0 0),(.int 3 0),(.ref 326),(.bool true),(.int 181 0),(.ref 327),.none,(.ref 328),(.ref 329),(.ref 330),(.int 631 0),(.int 141 0),(.str "/claim/cut.py" 632)]),#[]⟩) ::
 (nat_lit 332,⟨(.type "function"),none,.func (fnOf "so_many" "so_many" (defArgs (top 46)) (defBody (top 46)) (defScope (top 46)) .none .none .none (.str "lotdraw.words" 624) none (.ref 331) .none),#[]⟩) ::
 (nat_lit 338,⟨(.type "code"),none,(.fields #[(.str "check" 634),(.str "check" 635),(.str "/claim/cut.py" 636),(.int 144 0),(.int 1 0),(.int 0 0),(.int 0 0),(.int 3 0),(.ref 333),(.bool true),(.int 181 0),(.ref 334),.none,(.ref 335),(.ref 336),(.ref 337),(.int 638 0),(.int 144 0),(.str "/claim/cut.py" 639)]),#[]⟩) ::
 (nat_lit 339,⟨(.type "function"),none,.func (fnOf "check" "check" (defArgs (top 47)) (defBody (top 47)) (defScope (top 47)) .none .none .none (.str "lotdraw.words" 624) none (.ref 338) .none),#[]⟩) ::
 (nat_lit 345,⟨(.type "code"),none,(.fields #[(.str "least_plan" 643),(.str "least_plan" 644),(.str "/claim/cut.py" 645),(.int 148 0),(.int 5 0),(.int 0 0),(.int 0 0),(.int 3 0),(.ref 340),(.bool true),(.int 181 0),(.ref 341),.none,(.ref 342),(.ref 343),(.ref 344),(.int 656 0),(.int 148 0),(.str "/claim/cut.py" 657)]),#[]⟩) ::
 (nat_lit 346,⟨(.type "function"),none,.func (fnOf "least_plan" "least_plan" (defArgs (top 49)) (defBody (top 49)) (defScope (top 49)) .none .none .none (.str "lotdraw.search" 641) none (.ref 345) .none),#[]⟩) ::
 (nat_lit 350,⟨(.type "code"),none,(.fields #[(.str "tops_by_bad" 659),(.str "tops_by_bad" 660),(.str "/claim/cut.py" 661),(.int 162 0),(.int 2 0),(.int 0 0),(.int 0 0),(.int 3 0),(.ref 347),(.bool true),(.int 181 0),(.ref 348),.none,.none,.none,(.ref 349),(.int 662 0),(.int 162 0),(.str "/claim/cut.py" 663)]),#[]⟩) ::
 (nat_lit 351,⟨(.type "function"),none,.func (fnOf "tops_by_bad" "tops_by_bad" (defArgs (top 50)) (defBody (top 50)) (defScope (top 50)) .none .none .none (.str "lotdraw.search" 641) none (.ref 350) .none),#[]⟩) ::
 (nat_lit 357,⟨(.type "code"),none,(.fields #[(.str "keeps" 665),(.str "keeps" 666),(.str "/claim/cut.py" 667),(.int 166 0),(.int 4 0),(.int 0 0),(.int 0 0),(.int 3 0),(.ref 352),(.bool true),(.int 181 0),(.ref 353),.none,(.ref 354),(.ref 355),(.ref 356),(.int 672 0),(.int 166 0),(.str "/claim/cut.py" 673)]),#[]⟩) ::
 (nat_lit 358,⟨(.type "function"),none,.func (fnOf "keeps" "keeps" (defArgs (top 51)) (defBody (top 51)) (defScope (top 51)) .none .none .none (.str "lotdraw.search" 641) none (.ref 357) .none),#[]⟩) ::
 (nat_lit 364,⟨(.type "code"),none,(.fields #[(.str "_law_cell" 677),(.str "_law_cell" 678),(.str "/claim/cut.py" 679),(.int 169 0),(.int 2 0),(.int 0 0),(.int 0 0),(.int 3 0),(.ref 359),(.bool true),(.int 181 0),(.ref 360),.none,(.ref 361),(.ref 362),(.ref 363),(.int 682 0),(.int 169 0),(.str "/claim/cut.py" 683)]),#[]⟩) ::
 (nat_lit 365,⟨(.type "function"),none,.func (fnOf "_law_cell" "_law_cell" (defArgs (top 53)) (defBody (top 53)) (defScope (top 53)) .none .none .none (.str "law_lotdraw_k56_search_refused" 675) none (.ref 364) .none),#[]⟩) ::
 (nat_lit 378,⟨(.type "code"),none,(.fields #[(.str "_law_mixes" 696),(.str "_law_mixes" 697),(.str "/claim/cut.py" 698),(.int 179 0),(.int 3 0),(.int 0 0),(.int 0 0),(.int 3 0),(.ref 373),(.bool true),(.int 181 0),(.ref 374),.none,(.ref 375),(.ref 376),(.ref 377),(.int 705 0),(.int 179 0),(.str "/claim/cut.py" 706)]),#[]⟩) ::
 (nat_lit 379,⟨(.type "function"),none,.func (fnOf "_law_mixes" "_law_mixes" (defArgs (top 55)) (defBody (top 55)) (defScope (top 55)) .none .none .none (.str "law_lotdraw_k56_search_refused" 675) none (.ref 378) .none),#[]⟩) ::
 (nat_lit 383,⟨(.type "code"),none,(.fields #[(.str "_law_numbers" 708),(.str "_law_numbers" 709),(.str "/claim/cut.py" 710),(.int 185 0),(.int 2 0),(.int 0 0),(.int 0 0),(.int 3 0),(.ref 380),(.bool true),(.int 181 0),(.ref 381),.none,.none,.none,(.ref 382),(.int 711 0),(.int 185 0),(.str "/claim/cut.py" 712)]),#[]⟩) ::
 (nat_lit 384,⟨(.type "function"),none,.func (fnOf "_law_numbers" "_law_numbers" (defArgs (top 56)) (defBody (top 56)) (defScope (top 56)) .none .none .none (.str "law_lotdraw_k56_search_refused" 675) none (.ref 383) .none),#[]⟩) ::
 (nat_lit 388,⟨(.type "code"),none,(.fields #[(.str "_law_word" 714),(.str "_law_word" 715),(.str "/claim/cut.py" 716),(.int 195 0),(.int 1 0),(.int 0 0),(.int 0 0),(.int 3 0),(.ref 385),(.bool true),(.int 181 0),(.ref 386),.none,.none,.none,(.ref 387),(.int 717 0),(.int 195 0),(.str "/claim/cut.py" 718)]),#[]⟩) ::
 (nat_lit 389,⟨(.type "function"),none,.func (fnOf "_law_word" "_law_word" (defArgs (top 57)) (defBody (top 57)) (defScope (top 57)) .none .none .none (.str "law_lotdraw_k56_search_refused" 675) none (.ref 388) .none),#[]⟩) ::
 (nat_lit 395,⟨(.type "code"),none,(.fields #[(.str "_law_lowest" 720),(.str "_law_lowest" 721),(.str "/claim/cut.py" 722),(.int 205 0),(.int 2 0),(.int 0 0),(.int 0 0),(.int 3 0),(.ref 390),(.bool true),(.int 181 0),(.ref 391),.none,(.ref 392),(.ref 393),(.ref 394),(.int 727 0),(.int 205 0),(.str "/claim/cut.py" 728)]),#[]⟩) ::
 (nat_lit 396,⟨(.type "function"),none,.func (fnOf "_law_lowest" "_law_lowest" (defArgs (top 58)) (defBody (top 58)) (defScope (top 58)) .none .none .none (.str "law_lotdraw_k56_search_refused" 675) none (.ref 395) .none),#[]⟩) ::
 (nat_lit 402,⟨(.type "code"),none,(.fields #[(.str "_law_answer" 730),(.str "_law_answer" 731),(.str "/claim/cut.py" 732),(.int 211 0),(.int 5 0),(.int 0 0),(.int 0 0),(.int 3 0),(.ref 397),(.bool true),(.int 181 0),(.ref 398),.none,(.ref 399),(.ref 400),(.ref 401),(.int 740 0),(.int 211 0),(.str "/claim/cut.py" 741)]),#[]⟩) ::
 (nat_lit 403,⟨(.type "function"),none,.func (fnOf "_law_answer" "_law_answer" (defArgs (top 59)) (defBody (top 59)) (defScope (top 59)) .none .none .none (.str "law_lotdraw_k56_search_refused" 675) none (.ref 402) .none),#[]⟩) ::
 (nat_lit 409,⟨(.type "code"),none,(.fields #[(.str "_law_due" 743),(.str "_law_due" 744),(.str "/claim/cut.py" 745),(.int 219 0),(.int 5 0),(.int 0 0),(.int 0 0),(.int 3 0),(.ref 404),(.bool true),(.int 181 0),(.ref 405),.none,(.ref 406),(.ref 407),(.ref 408),(.int 752 0),(.int 219 0),(.str "/claim/cut.py" 753)]),#[]⟩) ::
 (nat_lit 410,⟨(.type "function"),none,.func (fnOf "_law_due" "_law_due" (defArgs (top 60)) (defBody (top 60)) (defScope (top 60)) .none .none .none (.str "law_lotdraw_k56_search_refused" 675) none (.ref 409) .none),#[]⟩) ::
 (nat_lit 416,⟨(.type "code"),none,(.fields #[(.str "law" 755),(.str "law" 756),(.str "/claim/cut.py" 757),(.int 226 0),(.int 1 0),(.int 0 0),(.int 0 0),(.int 3 0),(.ref 411),(.bool true),(.int 181 0),(.ref 412),.none,(.ref 413),(.ref 414),(.ref 415),(.int 767 0),(.int 226 0),(.str "/claim/cut.py" 768)]),#[]⟩) ::
 (nat_lit 417,⟨(.type "function"),none,.func (fnOf "law" "law" (defArgs (top 61)) (defBody (top 61)) (defScope (top 61)) .none .none .none (.str "law_lotdraw_k56_search_refused" 675) none (.ref 416) .none),#[]⟩) ::
 []
noncomputable def hpA:List Addr:=[2,3,23,24,25,36,37,48,49,60,61,72,73,84,85,96,97,108,109,120,121,132,133,144,145,156,157,168,169,180,181,192,193,204,205,213,214,220,221,227,228,234,235,241,242,248,249,255,256,262,263,267,268,272,273,277,278,282,283,287,288,294,295,296,302,303,304,310,311,317,318,324,325,331,332,338,339,345,346,350,351,357,358,364,365,378,379,383,384,388,389,395,396,402,403,409,410,416,417]
noncomputable def hpT:List Addr:=[327]
end MyLaw
namespace MyLaw
open PySem PySem.W L2
set_option maxHeartbeats 0
theorem zmo (P:Params):hpA=(hpK P).map (·.1):=by kernel_rfl
theorem zmH (w:World) (os:OsState):(Hd.runT treeTable PySem.Challenge.pw_lotdraw_k56_search_refused w 11 (some (.ref 6)) 9118 (Hd.bootS w os) (topStub PySem.Challenge.pw_lotdraw_k56_search_refused)).map (fun s=>((staticsOk (importedModules PySem.Challenge.pw_lotdraw_k56_search_refused.main.body) (boot_heap w.params) s.abs.heap && namesBound PySem.Challenge.pw_lotdraw_k56_search_refused s.abs.heap && gensDone s.abs && laidKept (boot_heap w.params) s.abs.heap),(hpA.map s.abs.heap.get?,hpT.map s.abs.heap.get?)))=some (true,((hpK w.params).map fun p=>some p.2,hpT.map fun _=>some (tabObj #[]))):=by kernel_rfl
noncomputable abbrev hpX:Shared->Bool:=fun s=>xlAt viewP [] s && recOk (RowW.records (OpenRow.toRowW (OpenLaw.row PySem.Challenge.rw_lotdraw_k56_search_refused))) s
theorem zmu (w:World) (os:OsState):(Hd.runT treeTable PySem.Challenge.pw_lotdraw_k56_search_refused w 11 (some (.ref 6)) 9118 (Hd.bootS w os) (topStub PySem.Challenge.pw_lotdraw_k56_search_refused)).map (fun s=>openSeen viewP [] (importedModules PySem.Challenge.pw_lotdraw_k56_search_refused.main.body) hpX true s.abs)=some (openGood viewP []):=by kernel_rfl
end MyLaw
set_option maxHeartbeats 4000000
namespace L2
open PySem PySem.Spec PyProof.Rows
noncomputable abbrev Key:=Sum Int Str
noncomputable def keyIs:Key->Value->Bool
 | .inl k,v=>Value.isInt k v
 | .inr x,v=>Value.isStrOf x v
noncomputable def keyH (w:World):Key->Int
 | .inl k=>hashInt k
 | .inr x=>hashStr w x
theorem z6:∀ {k:Key} {v:Value},keyIs k v=true->(∃ i t,k=Sum.inl i /\ v=Value.int i t) \/ (∃ x t,k=Sum.inr x /\ v=Value.str x t)
 | .inl i,v,h=>by
   obtain ⟨t,e⟩:=Value.isInt_shape (k:=i) (v:=v) h
   exact .inl ⟨i,t,rfl,e⟩
 | .inr x,v,h=>by
   obtain ⟨t,e⟩:=Value.isStrOf_shape (x:=x) (v:=v) h
   exact .inr ⟨x,t,rfl,e⟩
theorem zjd (i:Int) (t:Tok):keyIs (.inl i) (.int i t)=true:=by simp [keyIs,Value.isInt]
theorem ziA (x:Str) (t:Tok):keyIs (.inr x) (.str x t)=true:=by simp [keyIs,Value.isStrOf]
theorem zn2 (a b:Int):decide ((Sum.inl a:Key)=Sum.inl b)=(a == b):=by
 by_cases e:a=b
 ·subst e; simp
 ·have h:¬ (Sum.inl a:Key)=Sum.inl b:=fun q=>e (Sum.inl.inj q)
  rw [decide_eq_false h]
  exact (beq_eq_false_iff_ne.mpr e).symm
theorem znt (a b:Str):decide ((Sum.inr a:Key)=Sum.inr b)=decide (a=b):=by
 by_cases e:a=b
 ·subst e; simp
 ·have h:¬ (Sum.inr a:Key)=Sum.inr b:=fun q=>e (Sum.inr.inj q)
  rw [decide_eq_false h,decide_eq_false e]
theorem znb (a:Int) (b:Str):decide ((Sum.inl a:Key)=Sum.inr b)=false:=decide_eq_false (fun q=>nomatch q)
theorem zn6 (a:Str) (b:Int):decide ((Sum.inr a:Key)=Sum.inl b)=false:=decide_eq_false (fun q=>nomatch q)
noncomputable def mixKind (prog:Program) (w:World):PySem.KeyKind prog w Key where
 is:=keyIs
 hash:=keyH w
 inj:=fun v a b ha hb=>by
  rcases z6 ha with ⟨i,t,rfl,rfl⟩ | ⟨x,t,rfl,rfl⟩
  ·rcases z6 hb with ⟨j,u,rfl,e⟩ | ⟨y,u,rfl,e⟩
   ·injection e with e1 _; rw [e1]
   ·exact nomatch e
  ·rcases z6 hb with ⟨j,u,rfl,e⟩ | ⟨y,u,rfl,e⟩
   ·exact nomatch e
   ·injection e with e1 _; rw [e1]
 byValue:=fun k v h=>by
  rcases z6 h with ⟨i,t,rfl,rfl⟩ | ⟨x,t,rfl,rfl⟩ <;> rfl
 pyHash:=fun hv h=>by
  rcases z6 hv with ⟨i,t,rfl,rfl⟩ | ⟨x,t,rfl,rfl⟩
  ·exact wpAny_pyHash_int h
  ·exact wpAny_pyHash_str h
 eqBool:=fun hu hv h=>by
  rcases z6 hu with ⟨i,t,rfl,rfl⟩ | ⟨x,t,rfl,rfl⟩
  ·rcases z6 hv with ⟨j,u,rfl,rfl⟩ | ⟨y,u,rfl,rfl⟩
   ·rw [zn2] at h; exact wpAny_eqBool_int h
   ·rw [znb] at h; exact SeqAt.EqAt.int_str i t y u _ _ _ _ h
  ·rcases z6 hv with ⟨j,u,rfl,rfl⟩ | ⟨y,u,rfl,rfl⟩
   ·rw [zn6] at h; exact SeqAt.EqAt.str_int x t j u _ _ _ _ h
   ·rw [znt] at h; exact wpAny_eqBool_str h
 «strs»:=fun k x t v h=>by
  rcases z6 h with ⟨i,u,rfl,e⟩ | ⟨y,u,rfl,e⟩
  ·exact nomatch e
  ·injection e with e1 _
   subst e1
   cases v <;> rfl
theorem zf9 (prog:Program) (w:World) (i:Int) (t:Tok):(mixKind prog w).is (.inl i) (.int i t)=true:=zjd i t
theorem zfY (prog:Program) (w:World) (x:Str) (t:Tok):(mixKind prog w).is (.inr x) (.str x t)=true:=ziA x t
end L2
namespace L2
open PySem PySem.Spec PyProof.Rows
inductive V where
 | non | bl (b:Bool) | int (i:Int) | str (x:Str) | byt (b:Array UInt8) | flt (b:UInt64) | ref (a:Addr) | ty (n:String)
 deriving DecidableEq
noncomputable def RelV:V->Value->Prop
 | .non,u=>u=Value.none
 | .bl b,u=>u=Value.bool b
 | .int i,u=>∃ t,u=Value.int i t
 | .str x,u=>∃ t,u=Value.str x t
 | .byt b,u=>∃ t,u=Value.bytes b t
 | .flt b,u=>∃ t,u=Value.float b t
 | .ref a,u=>u=Value.ref a
 | .ty n,u=>u=Value.type n
noncomputable abbrev Vals:List V->List Value->Prop:=Paired RelV
theorem Vals.length {xs:List V} {us:List Value} (r:Vals xs us):xs.length=us.length:=Paired.length r
theorem Vals.get:∀ {xs:List V} {us:List Value} {i:Nat} {x:V},Vals xs us->xs[i]?=some x->∃ u,us[i]?=some u /\ RelV x u
 | _,_,_,_,.nil,e=>by simp at e
 | _,_,0,_,.cons r _,e=>by simp at e; subst e; exact ⟨_,rfl,r⟩
 | _,_,i + 1,x,.cons _ t,e=>by
   obtain ⟨u,h1,h2⟩:=Vals.get (i:=i) (x:=x) t (by simpa using e)
   exact ⟨u,by simpa using h1,h2⟩
theorem Vals.append:∀ {xs ys:List V} {us ws:List Value},Vals xs us->Vals ys ws->Vals (xs ++ ys) (us ++ ws)
 | _,_,_,_,.nil,s=>s
 | _,_,_,_,.cons r t,s=>.cons r (Vals.append t s)
theorem Vals.take:∀ {xs:List V} {us:List Value} (n:Nat),Vals xs us->Vals (xs.take n) (us.take n)
 | _,_,0,_=>.nil
 | _,_,_ + 1,.nil=>.nil
 | _,_,n + 1,.cons r t=>.cons r (Vals.take n t)
theorem Vals.drop:∀ {xs:List V} {us:List Value} (n:Nat),Vals xs us->Vals (xs.drop n) (us.drop n)
 | _,_,0,r=>r
 | _,_,_ + 1,.nil=>.nil
 | _,_,n + 1,.cons _ t=>Vals.drop n t
noncomputable def RelO:Option V->Option Value->Prop
 | some v,some u=>RelV v u
 | none,none=>True
 | _,_=>False
noncomputable def KV {κ:Type}:List (κ×V)->List (κ×Value)->Prop:=Paired fun (p:κ×V) (q:κ×Value)=>p.1=q.1 /\ RelV p.2 q.2
noncomputable def kV:Key->V
 | .inl i=>.int i
 | .inr x=>.str x
inductive HO where
  | lst (xs:List V)
  | tup (xs:List V)
  | dK (kvs:List (Key×V)) | dT (kvs:List (List Key×V))
  | set (S:Int->Bool) (n:Nat)
  | ins (C dx:Addr) (fs:List (Str×V))
  | own (x:Addr)
  | xd (fs:List (Str×V))
  | met (f x:Addr)
  | rng (lo hi:Int)
  | frz (o:Obj) (u:HO)
  | tbl (ps:Array Value)
 | lam (p:Pos) (q:Str) | code (q:Str)
   | ext (φ:Heap->Prop)
noncomputable abbrev Hp:=Addr->Option HO
noncomputable def upd (H:Hp) (a:Addr) (o:HO):Hp:=fun b=>if b=a then some o else H b
theorem zH {H:Hp} {a:Addr} {o:HO}:upd H a o a=some o:=by unfold upd; rw [if_pos rfl]
theorem zt {H:Hp} {a b:Addr} {o:HO} (h:b≠a):upd H a o b=H b:=by unfold upd; rw [if_neg h]
theorem zu {H:Hp} {a b:Addr} {o:HO} (h:H a=some o) (h':H b=none):a≠b:=by
 intro e; subst e; rw [h] at h'; cases h'
noncomputable def TupT (H:Hp) (b:Addr) (xs:List V):Prop:=H b=some (.tup xs) \/ ∃ ob,H b=some (.frz ob (.tup xs))
theorem TupT.ne {H:Hp} {a b:Addr} {o:HO} {xs:List V} (t:TupT H b xs) (n:b≠a):TupT (upd H a o) b xs:=by
 rcases t with t | ⟨ob,t⟩
 ·exact .inl (by rw [zt n]; exact t)
 ·exact .inr ⟨ob,by rw [zt n]; exact t⟩
theorem TupT.new {H:Hp} {a b:Addr} {o:HO} {xs:List V} (t:TupT H b xs) (n:H a=none):TupT (upd H a o) b xs:=t.ne fun z=>by
 subst z
 rcases t with t | ⟨ob,t⟩ <;> rw [n] at t <;> cases t
theorem TupT.dT {H:Hp} {a b:Addr} {o:HO} {xs:List V} {kvs:List (List Key×V)} (t:TupT H b xs) (e:H a=some (.dT kvs)):TupT (upd H a o) b xs:=t.ne fun z=>by
 subst z
 rcases t with t | ⟨ob,t⟩ <;> rw [e] at t <;> cases t
section
variable (P:Program) (w:World)
noncomputable def ObjOk (H:Hp) (h:Heap) (a:Addr):HO->Prop
 | .lst xs=>xs.length<=sizeLine /\ ∃ (its:List Value) (n:Nat),Vals xs its /\ h.get? a=some { cls:=.type "list",data:=.seq its.toArray n }
 | .tup xs=>xs.length<=sizeLine /\ ∃ its:List Value,Vals xs its /\ IsTup h a its.toArray
 | .dK kvs=>kvs.length<=sizeLine /\ (a == sysModules)=false /\ ∃ vs,KV kvs vs /\ h.DictOf (mixKind P w) a vs
 | .dT kvs=>kvs.length<=sizeLine /\ (a == sysModules)=false /\ ∃ xs:List (List Key×Addr×Value),
   Paired (fun (p:List Key×V) (q:List Key×Addr×Value)=>p.1=q.1 /\ TupT H q.2.1 (p.1.map kV) /\ RelV p.2 q.2.2) kvs xs /\
   ∃ o es ep,h.get? a=some o /\ o.ExactDict /\ o.data=.dict es ep /\ es.toList=xs.map (entryOfKey (tupleKind (mixKind P w))) /\ (xs.map (·.1)).Nodup
 | .set S n=>h.SetOf (intKind P w) a S n
 | .ins C dx fs=>H dx=some (.own a) /\ fs.length<=1000 /\ dx≠a /\ h.get? a=some (PySem.W.instObj C dx) /\
   ∃ mA,h.Ns1 dx mA /\ (∀ f,RelO (fs.lookup f) (mA f)) /\ PySem.Within mA (fs.map (·.1))
 | .own _=>∃ o,h.get? a=some o
 | .xd fs=>∃ mA,h.Ns1 a mA /\ ∀ f,RelO (fs.lookup f) (mA f)
 | .rng lo hi=>∃ t u v,h.get? a=some { cls:=.type "range",data:=.fields #[.int lo t,.int hi u,.int 1 v] }
 | .frz o u=>h.get? a=some o /\ ObjOk H h a u
 | .tbl ps=>h.get? a=some { cls:=.none,data:=.fields ps }
 | .lam p q=>∃ ps:Array Value,h.get? a=some (PySem.W.tabObj ps) /\ TriplesOk ps.toList /\ (codeAmong p ps.toList=none \/ ∃ c,codeAmong p ps.toList=some (.ref c) /\ H c=some (.code q))
 | .code q=>h.CodeRec (.ref a) q
 | .met f x=>h.get? a=some (PySem.W.methodObj (.ref f) (.ref x))
 | .ext φ=>φ h /\ (∃ o,h.get? a=some o) /\ ∀ h1 h2:Heap,φ h1->(∀ o,h1.get? a=some o->h2.get? a=some o)->φ h2
noncomputable def HOk (H:Hp) (h:Heap):Prop:=∀ a o,H a=some o->ObjOk P w H h a o
end
section
variable {P:Program} {w:World} {H H':Hp} {h h':Heap} {a:Addr} {o:HO}
theorem ObjOk.lt (x:ObjOk P w H h a o):a < h.objs.size:=by
 cases o with
 | lst xs=>obtain ⟨_,_,_,_,e⟩:=x; exact Heap.lt_size e
 | tup xs=>obtain ⟨_,_,_,p⟩:=x; exact p.lt
 | dK kvs=>obtain ⟨_,_,_,_,o,_,_,e,_⟩:=x; exact Heap.lt_size e
 | dT kvs=>obtain ⟨_,_,_,_,o,_,_,e,_⟩:=x; exact Heap.lt_size e
 | set S n=>obtain ⟨o,_,_,_,e,_⟩:=x; exact Heap.lt_size e
 | ins C dx fs=>obtain ⟨_,_,_,e,_⟩:=x; exact Heap.lt_size e
 | own y=>obtain ⟨_,e⟩:=x; exact Heap.lt_size e
 | xd fs=>obtain ⟨_,⟨_,_,_,e,_⟩,_⟩:=x; exact Heap.lt_size e
 | rng lo hi=>obtain ⟨_,_,_,e⟩:=x; exact Heap.lt_size e
 | frz ob u=>obtain ⟨e,_⟩:=x; exact Heap.lt_size e
 | tbl ps=>exact Heap.lt_size (show h.get? a=some _ from x)
 | lam p q=>obtain ⟨_,e,_⟩:=x; exact Heap.lt_size e
 | code q=>obtain ⟨_,_,_,_,z,e,_⟩:=x; cases z; exact Heap.lt_size e
 | met f y=>exact Heap.lt_size (show h.get? a=some _ from x)
 | ext φ=>obtain ⟨_,⟨_,e⟩,_⟩:=x; exact Heap.lt_size e
theorem Paired.mapP {α β:Type} {F G:α->β->Prop}:∀ {l₁:List α} {l₂:List β},Paired F l₁ l₂->(∀ a b,F a b->G a b)->Paired G l₁ l₂
 | _,_,.nil,_=>.nil
 | _,_,.cons r t,f=>.cons (f _ _ r) (Paired.mapP t f)
theorem ObjOk.stay (x:ObjOk P w H h a o) (k:∀ b u,(b=a \/ H b=some (.own a))->h.get? b=some u->h'.get? b=some u)
  (ho:∀ b,H b=some (.own a)->H' b=some (.own a)) (ht:∀ b xs,TupT H b xs->TupT H' b xs) (hc:∀ b q,H b=some (.code q)->H' b=some (.code q):=by first | exact fun _ _ z=>z | (intro c y z; rw [zt (zu z (by assumption))]; exact z)):ObjOk P w H' h' a o:=by
 induction o with
 | lst xs=>obtain ⟨z,its,n,r,e⟩:=x; exact ⟨z,its,n,r,k _ _ (.inl rfl) e⟩
 | tup xs=>obtain ⟨z,its,r,ob,e,c⟩:=x; exact ⟨z,its,r,ob,k _ _ (.inl rfl) e,c⟩
 | dK kvs=>obtain ⟨z,y,vs,r,ob,es,ep,e,c⟩:=x; exact ⟨z,y,vs,r,ob,es,ep,k _ _ (.inl rfl) e,c⟩
 | dT kvs=>
   obtain ⟨z,y,xs,r,ob,es,ep,e,c⟩:=x
   exact ⟨z,y,xs,Paired.mapP r fun p q z=>⟨z.1,ht _ _ z.2.1,z.2.2⟩,ob,es,ep,k _ _ (.inl rfl) e,c⟩
 | set S n=>obtain ⟨ob,es,ep,t,e,c⟩:=x; exact ⟨ob,es,ep,t,k _ _ (.inl rfl) e,c⟩
 | ins C dx fs=>
   obtain ⟨d,z,ne,e,mA,⟨od,es,ep,e2,c⟩,r⟩:=x
   exact ⟨ho _ d,z,ne,k _ _ (.inl rfl) e,mA,⟨od,es,ep,k _ _ (.inr d) e2,c⟩,r⟩
 | own y=>obtain ⟨ob,e⟩:=x; exact ⟨ob,k _ _ (.inl rfl) e⟩
 | xd fs=>obtain ⟨mA,⟨od,es,ep,e,c⟩,r⟩:=x; exact ⟨mA,⟨od,es,ep,k _ _ (.inl rfl) e,c⟩,r⟩
 | rng lo hi=>obtain ⟨t,u,v,e⟩:=x; exact ⟨t,u,v,k _ _ (.inl rfl) e⟩
 | frz ob u ih=>obtain ⟨e,q⟩:=x; exact ⟨k _ _ (.inl rfl) e,ih q⟩
 | lam p q=>obtain ⟨ps,e,t,r⟩:=x; exact ⟨ps,k _ _ (.inl rfl) e,t,r.imp id fun ⟨c,e1,e2⟩=>⟨c,e1,hc c q e2⟩⟩
 | code q=>obtain ⟨c,o,vs,t,z,e,r⟩:=x; cases z; exact ⟨_,o,vs,t,rfl,k _ _ (.inl rfl) e,r⟩
 | tbl ps=>
   have e:h.get? a=some { cls:=.none,data:=.fields ps }:=x
   show h'.get? a=some { cls:=.none,data:=.fields ps }
   exact k a _ (.inl rfl) e
 | met f y=>
   have e:h.get? a=some (PySem.W.methodObj (.ref f) (.ref y)):=x
   show h'.get? a=some (PySem.W.methodObj (.ref f) (.ref y))
   exact k a _ (.inl rfl) e
 | ext φ=>obtain ⟨p,⟨o,e⟩,st⟩:=x; exact ⟨st _ _ p fun o q=>k _ _ (.inl rfl) q,⟨o,k _ _ (.inl rfl) e⟩,st⟩
theorem HOk.lt (x:HOk P w H h) (e:H a=some o):a < h.objs.size:=(x a o e).lt
theorem HOk.fresh (x:HOk P w H h) (e:h.objs.size<=a):H a=none:=by
 cases q:H a with
 | none=>rfl
 | some u=>exact absurd (Nat.lt_of_lt_of_le (x.lt q) e) (Nat.lt_irrefl _)
theorem HOk.kept (x:HOk P w H h) (k:∀ b u,h.get? b=some u->h'.get? b=some u):HOk P w H h':=fun a o e=>
 (x a o e).stay (fun b u _ q=>k b u q) (fun _ q=>q) (fun _ _ q=>q) fun _ _ q=>q
theorem HOk.laid (x:HOk P w H h) (k:∀ b u,h.get? b=some u->h'.get? b=some u) (hp:h.objs.size<=a) (new:ObjOk P w (upd H a o) h' a o):HOk P w (upd H a o) h':=fun b u e=>by
 have hn:=x.fresh hp
 by_cases hb:b=a
 ·subst hb; rw [zH] at e; cases e; exact new
 ·rw [zt hb] at e
  exact (x b u e).stay (fun c v _ q=>k c v q) (fun c q=>by rw [zt (zu q hn)]; exact q) (fun c xs q=>q.new hn) fun c _ q=>by rw [zt (zu q hn)]; exact q
end
noncomputable def Rd (H:Hp) (a:Addr) (u:HO):Prop:=H a=some u \/ ∃ o,H a=some (.frz o u)
theorem Rd.ok {P:Program} {w:World} {H:Hp} {h:Heap} {a:Addr} {u:HO} (r:Rd H a u) (x:HOk P w H h):ObjOk P w H h a u:=by
 rcases r with r | ⟨o,r⟩
 ·exact x a u r
 ·obtain ⟨_,q⟩:=x a _ r
  exact q
noncomputable def Mut:Option HO->Prop
 | some (.lst _)=>True
 | some (.dK _)=>True
 | some (.dT _)=>True
 | some (.set _ _)=>True
 | some (.ins _ _ _)=>True
 | some (.ext _)=>True
 | _=>False
section
variable {P:Program} {w:World} {H:Hp} {h h':Heap} {x e:Addr} {o':HO}
theorem HOk.write (ok:HOk P w H h) (mu:Mut (H x)) (he:e=x \/ H e=some (.own x)) (k:∀ b u,b≠e->h.get? b=some u->h'.get? b=some u) (heo:∃ u,h'.get? e=some u)
  (new:ObjOk P w (upd H x o') h' x o'):HOk P w (upd H x o') h':=fun b u q=>by
 have nown:∀ c y,H c=some (.own y)->c≠x:=fun c y r z=>by subst z; rw [r] at mu; exact mu
 have ntup:∀ c xs,H c=some (.tup xs)->c≠x:=fun c xs r z=>by subst z; rw [r] at mu; exact mu
 by_cases hb:b=x
 ·subst hb; rw [zH] at q; cases q; exact new
 ·rw [zt hb] at q
  by_cases hbe:b=e
  ·have q':H b=some (.own x):=by
    rcases he with z | z
    ·exact absurd (hbe.trans z) hb
    ·rw [hbe]; exact z
   rw [q] at q'; cases q'
   obtain ⟨v,hv⟩:=heo
   exact ⟨v,by rw [hbe]; exact hv⟩
  ·refine (ok b u q).stay (fun c v hc r=>k c v ?_ r) (fun c r=>by rw [zt (nown c b r)]; exact r) (fun c xs r=>r.ne fun z=>by
    subst z
    rcases r with r | ⟨ob,r⟩ <;> rw [r] at mu <;> exact mu) fun c y r=>by rw [zt fun z=>by subst z; rw [r] at mu; exact mu]; exact r
   rcases hc with rfl | hc
   ·exact hbe
   ·rintro rfl
    rcases he with z | z
    ·exact nown c b hc z
    ·rw [hc] at z; cases z; exact hb rfl
end
structure Un (fs ex:List Addr) (H H':Hp) (h h':Heap):Prop where
 keep:∀ b o,h.get? b=some o->H b=none->b∉fs->b∉ex->h'.get? b=some o
 slot:∀ b o,h.get? b=some o->H b=none->b∈fs->b∉ex->∃ sl,h'.get? b=some { o with slots:=sl }
 free:∀ b o,h.get? b=some o->H b=none->b∉ex->H' b=none
 there:∀ b o,h.get? b=some o->b∉ex->∃ o',h'.get? b=some o'
 tups:∀ b xs,H b=some (.tup xs)->H' b=some (.tup xs)
 frzs:∀ b o u,H b=some (.frz o u)->H' b=some (.frz o u)
 tbls:∀ b ps,H b=some (.tbl ps)->∃ more,H' b=some (.tbl (ps ++ more))
section
variable {fs fs' ex ex':List Addr} {H H1 H2:Hp} {h h1 h2 h':Heap} {a x e:Addr} {o:HO}
theorem Un.any (u:Un fs ex H H1 h h1) {b:Addr} {ob:Obj} (q:h.get? b=some ob) (n:H b=none) (hx:b∉ex):∃ sl,h1.get? b=some { ob with slots:=sl }:=by
 by_cases hb:b∈fs
 ·exact u.slot b ob q n hb hx
 ·exact ⟨ob.slots,u.keep b ob q n hb hx⟩
theorem Un.kept (k:∀ b u,h.get? b=some u->h'.get? b=some u):Un fs ex H H h h':=
 ⟨fun b ob q _ _ _=>k b ob q,fun b ob q _ _ _=>⟨ob.slots,k b ob q⟩,fun _ _ _ n _=>n,fun b ob q _=>⟨ob,k b ob q⟩,fun _ _ q=>q,fun _ _ _ q=>q,fun _ ps q=>⟨#[],by rw [q]; simp⟩⟩
theorem Un.refl:Un fs ex H H h h:=Un.kept fun _ _ q=>q
theorem Un.laid (k:∀ b u,h.get? b=some u->h'.get? b=some u) (hp:h.objs.size<=a) (hn:H a=none):Un fs ex H (upd H a o) h h' where
 keep:=fun b u q _ _ _=>k b u q
 slot:=fun b u q _ _ _=>⟨u.slots,k b u q⟩
 free:=fun b u q n _=>by rw [zt (Nat.ne_of_lt (Nat.lt_of_lt_of_le (Heap.lt_size q) hp))]; exact n
 there:=fun b u q _=>⟨u,k b u q⟩
 tups:=fun b xs q=>by rw [zt (zu q hn)]; exact q
 frzs:=fun b u xs q=>by rw [zt (zu q hn)]; exact q
 tbls:=fun b ps q=>⟨#[],by rw [zt (zu q hn),q]; simp⟩
theorem Un.write (mu:Mut (H x)) (he:e=x \/ H e=some (.own x)) (k:∀ b u,b≠e->h.get? b=some u->h'.get? b=some u) (heo:∃ u,h'.get? e=some u):Un fs ex H (upd H x o) h h':=by
 have hx:∀ b,H b=none->b≠x:=fun b n z=>by subst z; rw [n] at mu; exact mu
 have hb:∀ b,H b=none->b≠e:=fun b n z=>by
  subst z
  rcases he with r | r
  ·exact hx b n r
  ·rw [n] at r; cases r
 have hm:∀ b u,H b=some u->¬ Mut (some u)->b≠x:=fun b u q nm z=>by subst z; rw [q] at mu; exact nm mu
 refine ⟨fun b u q n _ _=>k b u (hb b n) q,fun b u q n _ _=>⟨u.slots,k b u (hb b n) q⟩,fun b u q n _=>by rw [zt (hx b n)]; exact n,fun b u q _=>?_,
  fun b xs q=>by rw [zt (hm b _ q fun z=>z)]; exact q,fun b u xs q=>by rw [zt (hm b _ q fun z=>z)]; exact q,fun b ps q=>⟨#[],by rw [zt (hm b _ q fun z=>z),q]; simp⟩⟩
 by_cases hbe:b=e
 ·subst hbe; exact heo
 ·exact ⟨u,k b u hbe q⟩
end
noncomputable def trk (h:Heap) (H:Hp):List Addr:=(List.range h.objs.size).filter fun a=>(H a).isSome
noncomputable def hidT (h:Heap) (H:Hp):Heap:=PySem.W.hideAll h (trk h H)
theorem zfz (h:Heap) (H:Hp):(hidT h H).objs.size=h.objs.size:=PySem.W.hideAll_size _ _
theorem zcW {h:Heap} {H:Hp} {b:Addr} {o:Obj} (e:h.get? b=some o) (n:H b=none):(hidT h H).get? b=some o:=
 PySem.W.hideAll_get _ e fun hm=>by
  have q:(H b).isSome=true:=(List.mem_filter.mp hm).2
  rw [n] at q; simp at q
theorem ziL {h:Heap} {H:Hp} {b:Addr} {o:Obj} (e:(hidT h H).get? b=some o):h.get? b=some o /\ H b=none:=by
 have e':h.get? b=some o:=PySem.W.of_hideAll (trk h H) e
 refine ⟨e',?_⟩
 cases q:H b with
 | none=>rfl
 | some x=>
   have hm:b∈trk h H:=List.mem_filter.mpr ⟨List.mem_range.mpr (Heap.lt_size e'),by simp [q]⟩
   have z:(hidT h H).get? b=none:=PySem.W.hideAll_none (trk h H) hm
   rw [z] at e; cases e
noncomputable def allNews (g h:Heap) (L:Addr):List (Addr×Obj):=(List.range h.objs.size).filterMap fun a=>if a=L \/ (g.get? a).isSome=true then none else (h.get? a).map fun o=>(a,o)
noncomputable def rest (g h:Heap) (L d:Addr):List (Addr×Obj):=(allNews g h L).filter fun p=>decide (p.1≠d)
end L2
namespace L2
open PySem PySem.Spec PyProof.Rows
structure Mod (K:PySem.W.Frag) (mg:Str->Option Value) (base:Heap):Prop where
 kin:K.In base
 glob:base.Ns mainGlobals mg
 blt:∃ mb,base.Ns builtinsNs mb /\ ∀ x:Str,x≠"__name__"->mb x=bootBuiltins x
 nolimit:base.NoLimit
structure Cx where
 prog:Program
 w:World
 K:PySem.W.Frag
 mg:Str->Option Value
 base:Heap
 A:Around
 N:List Str
 s₀:Shared
 H₀:Hp
 env:Env
 outer:List Env
 stack:List Env
 ex:List Addr
 fn:Str->Bool
 calm:Bool
 pn:List (Addr×Obj)
 xe:Value->Shared->Prop
noncomputable def frs (l:List Env):List Addr:=l.filterMap (·.frame)
noncomputable abbrev Cx.fs (X:Cx):List Addr:=frs X.outer
noncomputable def Vis (sc:Scope) (x:Str):Prop:=sc.names.lookup x=some .local \/ sc.names.lookup x=some .cell \/ sc.names.lookup x=some .free
noncomputable def Loc (sc:Scope) (x:Str):Prop:=sc.names.lookup x=some .local \/ sc.names.lookup x=some .cell
noncomputable def Look (env:Env) (h:Heap) (m:Str->Option Value) (x:Str) (u:Value):Prop:=
 (env.kindOf x=some .local /\ m x=some u) \/ ((env.kindOf x=some .cell \/ env.kindOf x=some .free) /\ ∃ c,env.cells.lookup x=some c /\ h.IsCell c (some u))
structure Cx.Ok (X:Cx):Prop where
 mod:Mod X.K X.mg X.base
 kind:X.env.scope.kind=.function
 glob:X.env.globals=mainGlobals
 blt:X.env.builtins=builtinsNs
 above:X.s₀.heap.objs.size<=X.env.locals
 inj:∀ x y c,X.env.cells.lookup x=some c->X.env.cells.lookup y=some c->x=y
 has:∀ x,(X.env.kindOf x=some .cell \/ X.env.kindOf x=some .free)->∃ c,X.env.cells.lookup x=some c
 cab:∀ x c,X.fn x=true->X.env.cells.lookup x=some c->X.s₀.heap.objs.size<=c
 hd:X.calm=true->X.A.handled=none
 frames:X.A.frames=some X.stack
 stk:X.stack=X.outer \/ (X.stack=X.env :: X.outer /\ X.env.frame=some X.env.locals)
 exf:∀ b∈X.ex,b≠X.env.locals /\ ∀ x c,X.env.cells.lookup x=some c->c≠b
 bs:∀ b o,X.base.get? b=some o->X.s₀.heap.get? b=some o /\ X.H₀ b=none
 bsz:X.base.objs.size<=X.s₀.heap.objs.size
 noex:∀ b o,X.base.get? b=some o->b∉X.ex
 exfs:∀ b∈X.ex,b∉X.fs
 funs:X.s₀.heap.FunFrames X.base X.outer
 frf:∀ b∈X.fs,X.H₀ b=none
structure Inv (X:Cx) (pins:List (Addr×Obj)) (σ:List (Option V)) (H:Hp) (s:Shared):Prop where
 ok:X.Ok
 os:s.os=X.s₀.os
 bare:AllBare s.gens
 base:Un X.fs X.ex X.H₀ H X.s₀.heap s.heap
 loc:∃ m,s.heap.Ns X.env.locals m /\ ∀ (i:Nat) (x:Str) (v:V),X.N[i]?=some x->σ[i]?=some (some v)->Vis X.env.scope x->∃ u,RelV v u /\ Look X.env s.heap m x u
 cell:∀ x c,X.env.cells.lookup x=some c->∃ v,s.heap.IsCell c v
 free:H X.env.locals=none
 freeC:∀ x c,X.env.cells.lookup x=some c->H c=none
 pin:∀ p∈X.pn ++ pins,s.heap.get? p.1=some p.2 /\ H p.1=none /\ p.1≠X.env.locals /\ p.1∉X.fs /\ ∀ v,p.2.data≠.cell v
 hok:HOk X.prog X.w H s.heap
 len:σ.length=X.N.length
section
variable {X:Cx} {pins:List (Addr×Obj)} {σ:List (Option V)} {H H':Hp} {s:Shared} {h':Heap}
theorem Cx.Ok.nofr (ok:X.Ok) {b:Addr} {o:Obj} (e:X.base.get? b=some o):b∉X.fs:=fun hb=>by
 have:=(ok.funs.mem hb).1
 rw [e] at this; cases this
theorem Inv.bs (I:Inv X pins σ H s):∀ b o,X.base.get? b=some o->s.heap.get? b=some o /\ H b=none:=fun b o e=>
 ⟨I.base.keep b o (I.ok.bs b o e).1 (I.ok.bs b o e).2 (I.ok.nofr e) (I.ok.noex b o e),I.base.free b o (I.ok.bs b o e).1 (I.ok.bs b o e).2 (I.ok.noex b o e)⟩
theorem Inv.bk (I:Inv X pins σ H s):∀ b o,X.base.get? b=some o->s.heap.get? b=some o:=fun b o e=>(I.bs b o e).1
theorem Inv.mod (I:Inv X pins σ H s):Mod X.K X.mg X.base:=I.ok.mod
theorem Inv.kIn (I:Inv X pins σ H s):X.K.In s.heap:=I.ok.mod.kin.keeps I.bk
theorem Inv.lt (I:Inv X pins σ H s):X.env.locals < s.heap.objs.size:=let ⟨_,hn,_⟩:=I.loc; hn.lt
theorem Inv.sz (I:Inv X pins σ H s):X.s₀.heap.objs.size<=s.heap.objs.size:=Nat.le_trans I.ok.above (Nat.le_of_lt I.lt)
theorem Inv.nofs (I:Inv X pins σ H s) {a:Addr} (h:s.heap.objs.size<=a):a∉X.fs:=fun hb=>by
 obtain ⟨_,o,ho,_⟩:=I.ok.funs.mem hb
 exact absurd (Nat.lt_of_lt_of_le (Heap.lt_size ho) (Nat.le_trans I.sz h)) (Nat.lt_irrefl _)
theorem Inv.cne (I:Inv X pins σ H s):∀ x c,X.env.cells.lookup x=some c->c≠X.env.locals:=fun x c e z=>by
 obtain ⟨v,o,ho,hd⟩:=I.cell x c e
 obtain ⟨m,⟨o',es,ep,ho',hd',_⟩,_⟩:=I.loc
 rw [z,ho'] at ho; cases ho; rw [hd'] at hd; cases hd
theorem Inv.funs (I:Inv X pins σ H s):s.heap.FunFrames X.base X.outer:=by
 have all:∀ (l:List Env),(∀ b∈frs l,b∈X.fs)->X.s₀.heap.FunFrames X.base l->s.heap.FunFrames X.base l:=by
  intro l
  induction l with
  | nil=>intro _ _; trivial
  | cons env r ih=>
    intro hs hl
    obtain ⟨hk,⟨L,o,hf,hn,ho,hd⟩,hr⟩:=hl
    have hL:L∈X.fs:=hs L (by unfold frs; rw [List.filterMap_cons,hf]; exact List.mem_cons_self)
    obtain ⟨sl,e⟩:=I.base.slot L o ho (I.ok.frf L hL) hL fun z=>I.ok.exfs L z hL
    exact ⟨hk,⟨L,_,hf,hn,e,hd⟩,ih (fun b hb=>hs b (by unfold frs; rw [List.filterMap_cons,hf]; exact List.mem_cons_of_mem _ hb)) hr⟩
 exact all X.outer (fun _ hb=>hb) I.ok.funs
theorem Inv.stack (I:Inv X pins σ H s):s.heap.FunFrames X.base X.stack:=by
 rcases I.ok.stk with e | ⟨e,hf⟩
 ·rw [e]; exact I.funs
 ·rw [e]
  obtain ⟨m,hn,_⟩:=I.loc
  refine .cons (by rw [I.ok.kind]; decide) hf hn ?_ I.funs
  exact Heap.get?_none_of_le (Nat.le_trans I.ok.bsz I.ok.above)
theorem Inv.stkSub (I:Inv X pins σ H s):∀ b∈frs X.stack,b∈X.env.locals :: X.fs:=fun b hb=>by
 rcases I.ok.stk with e | ⟨e,hf⟩
 ·rw [e] at hb; exact List.mem_cons_of_mem _ hb
 ·rw [e] at hb
  unfold frs at hb
  rw [List.filterMap_cons,hf] at hb
  exact hb
theorem Inv.stkFree (I:Inv X pins σ H s):∀ b∈frs X.stack,H b=none:=fun b hb=>by
 rcases List.mem_cons.mp (I.stkSub b hb) with e | hb
 ·rw [e]; exact I.free
 ·obtain ⟨_,o,ho,_⟩:=I.ok.funs.mem hb
  exact I.base.free b o ho (I.ok.frf b hb) fun z=>I.ok.exfs b z hb
theorem Inv.step {g':Array GenState} {t':Nat} {d':Drawn} {ch:List Addr} (I:Inv X pins σ H s)
  (hch:∀ b∈ch,(b∈X.ex \/ X.s₀.heap.objs.size<=b) /\ b≠X.env.locals /\ (∀ x c,X.env.cells.lookup x=some c->c≠b) /\ ∀ p∈X.pn ++ pins,p.1≠b)
  (keep:∀ b o,b≠X.env.locals->b∉X.fs->b∉ch->s.heap.get? b=some o->H b=none->h'.get? b=some o)
  (slot:∀ b o,b≠X.env.locals->b∈X.fs->b∉ch->s.heap.get? b=some o->H b=none->∃ sl,h'.get? b=some { o with slots:=sl }) (free:∀ b o,b∉ch->s.heap.get? b=some o->H b=none->H' b=none)
  (there:∀ b o,b∉ch->s.heap.get? b=some o->∃ o',h'.get? b=some o')
  (tups:∀ b xs,H b=some (.tup xs)->H' b=some (.tup xs)) (frzs:∀ b o u,H b=some (.frz o u)->H' b=some (.frz o u)) (tbls:∀ b ps,H b=some (.tbl ps)->∃ more,H' b=some (.tbl (ps ++ more)))
  (ns:∀ m,s.heap.Ns X.env.locals m->h'.Ns X.env.locals m) (hok:HOk X.prog X.w H' h') (hg:AllBare g'):
  Inv X pins σ H' { s with heap:=h',gens:=g',drawn:=d',toks:=t' }:=by
 have neL:∀ b o,X.s₀.heap.get? b=some o->b≠X.env.locals:=fun b o e=>Nat.ne_of_lt (Nat.lt_of_lt_of_le (Heap.lt_size e) I.ok.above)
 have neC:∀ b o,X.s₀.heap.get? b=some o->b∉X.ex->b∉ch:=fun b o e hx hb=>by
  rcases (hch b hb).1 with z | z
  ·exact hx z
  ·exact absurd (Nat.lt_of_lt_of_le (Heap.lt_size e) z) (Nat.lt_irrefl _)
 have cellK:∀ x c,X.env.cells.lookup x=some c->∀ v,s.heap.IsCell c v->h'.IsCell c v:=fun x c e v ⟨o,ho,hd⟩=>by
  have nch:c∉ch:=fun z=>(hch c z).2.2.1 x c e rfl
  by_cases hc:c∈X.fs
  ·obtain ⟨sl,q⟩:=slot c o (I.cne x c e) hc nch ho (I.freeC x c e)
   exact ⟨_,q,hd⟩
  ·exact ⟨o,keep c o (I.cne x c e) hc nch ho (I.freeC x c e),hd⟩
 refine ⟨I.ok,I.os,hg,⟨fun b o e n hb hx=>?_,fun b o e n hb hx=>?_,fun b o e n hx=>?_,fun b o e hx=>?_,fun b xs e=>tups b xs (I.base.tups b xs e),fun b o xs e=>frzs b o xs (I.base.frzs b o xs e),fun b ps e=>?_⟩,?_,fun x c e=>?_,?_,fun x c e=>?_,fun p hp=>?_,hok,I.len⟩
 ·exact keep b o (neL b o e) hb (neC b o e hx) (I.base.keep b o e n hb hx) (I.base.free b o e n hx)
 ·obtain ⟨sl,e1⟩:=I.base.slot b o e n hb hx
  obtain ⟨sl',e2⟩:=slot b _ (neL b o e) hb (neC b o e hx) e1 (I.base.free b o e n hx)
  exact ⟨sl',e2⟩
 ·obtain ⟨o',e1⟩:=I.base.there b o e hx
  exact free b o' (neC b o e hx) e1 (I.base.free b o e n hx)
 ·obtain ⟨o',e1⟩:=I.base.there b o e hx
  exact there b o' (neC b o e hx) e1
 ·obtain ⟨m1,e1⟩:=I.base.tbls b ps e
  obtain ⟨m2,e2⟩:=tbls b _ e1
  exact ⟨m1 ++ m2,by rw [e2,Array.append_assoc]⟩
 ·obtain ⟨m,hn,hl⟩:=I.loc
  refine ⟨m,ns m hn,fun i x v e1 e2 e3=>?_⟩
  obtain ⟨u,r,l⟩:=hl i x v e1 e2 e3
  refine ⟨u,r,?_⟩
  rcases l with l | ⟨k,c,e,z⟩
  ·exact .inl l
  ·exact .inr ⟨k,c,e,cellK x c e _ z⟩
 ·obtain ⟨v,z⟩:=I.cell x c e
  exact ⟨v,cellK x c e v z⟩
 ·obtain ⟨m,⟨o,_,_,ho,_⟩,_⟩:=I.loc
  exact free _ o (fun z=>(hch _ z).2.1 rfl) ho I.free
 ·obtain ⟨v,o,ho,hd⟩:=I.cell x c e
  exact free c o (fun z=>(hch c z).2.2.1 x c e rfl) ho (I.freeC x c e)
 ·obtain ⟨e,n,ne,nf,d⟩:=I.pin p hp
  have nch:p.1∉ch:=fun z=>(hch p.1 z).2.2.2 p hp rfl
  exact ⟨keep p.1 p.2 ne nf nch e n,free p.1 p.2 nch e n,ne,nf,d⟩
theorem Inv.un {t':Nat} (I:Inv X pins σ H s) (u:Un X.fs [] H H' s.heap h') (hok:HOk X.prog X.w H' h'):Inv X pins σ H' { s with heap:=h',toks:=t' }:=by
 obtain ⟨m,⟨o,es,ep,ho,r⟩,_⟩:=id I.loc
 obtain ⟨sl,hL⟩:=u.any ho I.free (by simp)
 exact I.step (g':=s.gens) (d':=s.drawn) (ch:=[]) (fun _ z=>nomatch z) (fun b o _ hb _ e n=>u.keep b o e n hb (by simp)) (fun b o _ hb _ e n=>u.slot b o e n hb (by simp)) (fun b o _ e n=>u.free b o e n (by simp)) (fun b o _ e=>u.there b o e (by simp)) u.tups u.frzs u.tbls (fun m' hm=>by
  obtain ⟨o',es',ep',ho',r'⟩:=hm
  rw [ho] at ho'; cases ho'
  exact ⟨_,es',ep',hL,r'⟩) hok I.bare
theorem Inv.call {g':Array GenState} {t':Nat} {d':Drawn} {ch:List Addr} (I:Inv X pins σ H s) (u:Un (frs X.stack) ch H H' s.heap h') (hok:HOk X.prog X.w H' h') (hg:AllBare g')
  (hch:∀ b∈ch,(b∈X.ex \/ X.s₀.heap.objs.size<=b) /\ b≠X.env.locals /\ (∀ x c,X.env.cells.lookup x=some c->c≠b) /\ ∀ p∈X.pn ++ pins,p.1≠b):
  Inv X pins σ H' { s with heap:=h',gens:=g',drawn:=d',toks:=t' }:=by
 obtain ⟨m,⟨o,es,ep,ho,r⟩,_⟩:=id I.loc
 obtain ⟨sl,hL⟩:=u.any ho I.free fun z=>(hch _ z).2.1 rfl
 exact I.step (ch:=ch) hch (fun b o hL hb hc e n=>u.keep b o e n (fun z=>(List.mem_cons.mp (I.stkSub b z)).elim hL hb) hc) (fun b o _ _ hc e n=>u.any e n hc) (fun b o hc e n=>u.free b o e n hc) (fun b o hc e=>u.there b o e hc) u.tups u.frzs u.tbls (fun m' hm=>by
  obtain ⟨o',es',ep',ho',r'⟩:=hm
  rw [ho] at ho'; cases ho'
  exact ⟨_,es',ep',hL,r'⟩) hok hg
theorem Inv.turned {t':Nat} {it:Addr} (I:Inv X pins σ H s) (k:∀ b o,b≠it->s.heap.get? b=some o->h'.get? b=some o) (hn:H it=none) (hL:it≠X.env.locals)
  (h1:it∈X.ex \/ X.s₀.heap.objs.size<=it) (h2:∀ x c,X.env.cells.lookup x=some c->c≠it) (h3:∀ p∈X.pn ++ pins,p.1≠it):Inv X pins σ H { s with heap:=h',toks:=t' }:=by
 have nit:∀ b u,H b=some u->b≠it:=fun b u e z=>by rw [z,hn] at e; cases e
 refine I.step (g':=s.gens) (d':=s.drawn) (ch:=[it]) (fun b hb=>?_) (fun b o _ _ hc e _=>k b o (fun z=>hc (by simp [z])) e) (fun b o _ _ hc e _=>⟨o.slots,k b o (fun z=>hc (by simp [z])) e⟩) (fun _ _ _ _ n=>n)
  (fun b o hc e=>⟨o,k b o (fun z=>hc (by simp [z])) e⟩) (fun _ _ e=>e) (fun _ _ _ e=>e) (fun b ps e=>⟨#[],by rw [e]; simp⟩) (fun m hm=>?_) (fun b u e=>?_) I.bare
 ·have e:b=it:=by simpa using hb
  subst e
  exact ⟨h1,hL,h2,h3⟩
 ·obtain ⟨o,es,ep,ho,r⟩:=hm
  exact ⟨o,es,ep,k _ o (Ne.symm hL) ho,r⟩
 ·refine (I.hok b u e).stay (fun c v hc q=>k c v ?_ q) (fun _ q=>q) (fun _ _ q=>q) fun _ _ q=>q
  rcases hc with z | z
  ·rw [z]; exact nit b u e
  ·exact nit c _ z
theorem Inv.tok (I:Inv X pins σ H s) (t:Nat):Inv X pins σ H { s with toks:=t }:=I.un (h':=s.heap) (t':=t) Un.refl I.hok
theorem Inv.kept {t':Nat} (I:Inv X pins σ H s) (k:∀ b u,s.heap.get? b=some u->h'.get? b=some u):Inv X pins σ H { s with heap:=h',toks:=t' }:=I.un (Un.kept k) (I.hok.kept k)
theorem Inv.laid {a:Addr} {o:HO} {t':Nat} (I:Inv X pins σ H s) (k:∀ b u,s.heap.get? b=some u->h'.get? b=some u) (hp:s.heap.objs.size<=a) (new:ObjOk X.prog X.w (upd H a o) h' a o):
  Inv X pins σ (upd H a o) { s with heap:=h',toks:=t' }:=I.un (Un.laid k hp (I.hok.fresh hp)) (I.hok.laid k hp new)
theorem Inv.write {x e:Addr} {o:HO} {t':Nat} (I:Inv X pins σ H s) (mu:Mut (H x)) (he:e=x \/ H e=some (.own x)) (k:∀ b u,b≠e->s.heap.get? b=some u->h'.get? b=some u) (heo:∃ u,h'.get? e=some u)
  (new:ObjOk X.prog X.w (upd H x o) h' x o):Inv X pins σ (upd H x o) { s with heap:=h',toks:=t' }:=I.un (Un.write mu he k heo) (I.hok.write mu he k heo new)
theorem Inv.pins_of {pins':List (Addr×Obj)} (I:Inv X pins σ H s) (h:∀ p∈pins',s.heap.get? p.1=some p.2 /\ H p.1=none /\ p.1≠X.env.locals /\ p.1∉X.fs /\ ∀ v,p.2.data≠.cell v):Inv X pins' σ H s:=
 ⟨I.ok,I.os,I.bare,I.base,I.loc,I.cell,I.free,I.freeC,fun p hp=>(List.mem_append.mp hp).elim (fun z=>I.pin p (List.mem_append_left _ z)) (h p),I.hok,I.len⟩
theorem zgO {N:List Str} (hN:N.Nodup) {i j:Nat} {x:Str} (a:N[i]?=some x) (b:N[j]?=some x):i=j:=by
 obtain ⟨h1,e1⟩:=List.getElem?_eq_some_iff.mp a
 obtain ⟨h2,e2⟩:=List.getElem?_eq_some_iff.mp b
 exact (List.getElem_inj hN).mp (e1.trans e2.symm)
theorem zfR {M:Model} {A:Around} {E:Value->Shared->Prop} {i:Nat} {x:Str} {v:V} {u:Value} {Q:Unit->Shared->Prop} (I:Inv X pins σ H s) (hN:X.N.Nodup) (hi:X.N[i]?=some x) (hx:Loc X.env.scope x) (r:RelV v u)
  (h:∀ s',Inv X pins (σ.set i (some v)) H s'->(∃ a,Heap.SameBut a s.heap s'.heap /\ (a=X.env.locals \/ X.env.cells.lookup x=some a))->Q () s') (hf:X.fn x=true \/ X.env.scope.names.lookup x=some .local):wpAny M A (storeName X.env x u) Q E s:=by
 obtain ⟨m,hn,hl⟩:=id I.loc
 have hcls:(X.env.scope.kind == .class || (X.env.scope.kind == .module && X.env.locals != X.env.globals))=false:=by rw [I.ok.kind]; rfl
 have hiσ:i < σ.length:=by rw [I.len]; exact (List.getElem?_eq_some_iff.mp hi).1
 have cne:=I.cne
 have tracked:∀ {a:Addr} {h':Heap},(∃ o,s.heap.get? a=some o /\ H a=none)->Heap.SameBut a s.heap h'->HOk X.prog X.w H h':=fun {a h'} ha hs b ob e=>by
  obtain ⟨_,_,hfree⟩:=ha
  refine (I.hok b ob e).stay (fun c w' hc q=>(hs.2 c ?_).trans q) (fun _ q=>q) (fun _ _ q=>q) fun _ _ q=>q
  rintro rfl
  rcases hc with rfl | hc
  ·rw [hfree] at e; cases e
  ·rw [hfree] at hc; cases hc
 rcases hx with hk | hk
 ·refine wpAny_storeName_local hk hn (fun h' hn' hs=>?_) hcls
  obtain ⟨oL,_,_,hoL,_⟩:=id hn
  refine h _ ⟨I.ok,I.os,I.bare,⟨fun b o e n hb hx=>?_,fun b o e n hb hx=>?_,I.base.free,fun b o e hx=>?_,I.base.tups,I.base.frzs,I.base.tbls⟩,⟨_,hn',fun j y v' e1 e2 e3=>?_⟩,fun y c e=>?_,I.free,I.freeC,fun p hp=>?_,tracked ⟨oL,hoL,I.free⟩ hs,by simpa using I.len⟩ ⟨_,hs,.inl rfl⟩
  ·exact (hs.2 b (Nat.ne_of_lt (Nat.lt_of_lt_of_le (Heap.lt_size e) I.ok.above))).trans (I.base.keep b o e n hb hx)
  ·obtain ⟨sl,e1⟩:=I.base.slot b o e n hb hx
   exact ⟨sl,(hs.2 b (Nat.ne_of_lt (Nat.lt_of_lt_of_le (Heap.lt_size e) I.ok.above))).trans e1⟩
  ·obtain ⟨o',e1⟩:=I.base.there b o e hx
   exact ⟨o',(hs.2 b (Nat.ne_of_lt (Nat.lt_of_lt_of_le (Heap.lt_size e) I.ok.above))).trans e1⟩
  ·by_cases hj:j=i
   ·subst hj
    rw [hi] at e1; cases e1
    rw [List.getElem?_set_self hiσ] at e2
    cases e2
    exact ⟨u,r,.inl ⟨hk,by simp⟩⟩
   ·rw [List.getElem?_set_ne (Ne.symm hj)] at e2
    obtain ⟨u',r',q⟩:=hl j y v' e1 e2 e3
    refine ⟨u',r',?_⟩
    rcases q with ⟨k,e⟩ | ⟨k,c,e,z⟩
    ·refine .inl ⟨k,?_⟩
     have:y≠x:=fun e=>hj (zgO hN e1 (e ▸ hi))
     simp [this,e]
    ·exact .inr ⟨k,c,e,z.sameBut hs (cne y c e)⟩
  ·obtain ⟨w',z⟩:=I.cell y c e
   exact ⟨w',z.sameBut hs (cne y c e)⟩
  ·obtain ⟨e,n,ne,nf,d⟩:=I.pin p hp
   exact ⟨(hs.2 p.1 ne).trans e,n,ne,nf,d⟩
 ·have hfn:X.fn x=true:=by
   rcases hf with z | z
   ·exact z
   ·rw [z] at hk; cases hk
  obtain ⟨c,hc⟩:=I.ok.has x (.inl hk)
  obtain ⟨w',z⟩:=I.cell x c hc
  refine wpAny_storeName_cell I.ok.kind hk hc z (fun h' hc' hs=>?_)
  obtain ⟨oc,hoc,hocd⟩:=id z
  refine h { s with heap:=h' } ⟨I.ok,I.os,I.bare,⟨fun b o e n hb hx=>?_,fun b o e n hb hx=>?_,I.base.free,fun b o e hx=>?_,I.base.tups,I.base.frzs,I.base.tbls⟩,⟨m,hn.sameBut hs (Ne.symm (cne x c hc)),fun j y v' e1 e2 e3=>?_⟩,fun y c' e=>?_,I.free,I.freeC,fun p hp=>?_,tracked ⟨oc,hoc,I.freeC x c hc⟩ hs,by simpa using I.len⟩ ⟨c,hs,.inr hc⟩
  ·exact (hs.2 b (Nat.ne_of_lt (Nat.lt_of_lt_of_le (Heap.lt_size e) (I.ok.cab x c hfn hc)))).trans (I.base.keep b o e n hb hx)
  ·obtain ⟨sl,e1⟩:=I.base.slot b o e n hb hx
   exact ⟨sl,(hs.2 b (Nat.ne_of_lt (Nat.lt_of_lt_of_le (Heap.lt_size e) (I.ok.cab x c hfn hc)))).trans e1⟩
  ·obtain ⟨o',e1⟩:=I.base.there b o e hx
   exact ⟨o',(hs.2 b (Nat.ne_of_lt (Nat.lt_of_lt_of_le (Heap.lt_size e) (I.ok.cab x c hfn hc)))).trans e1⟩
  ·by_cases hj:j=i
   ·subst hj
    rw [hi] at e1; cases e1
    rw [List.getElem?_set_self hiσ] at e2
    cases e2
    exact ⟨u,r,.inr ⟨.inl hk,c,hc,hc'⟩⟩
   ·rw [List.getElem?_set_ne (Ne.symm hj)] at e2
    obtain ⟨u',r',q⟩:=hl j y v' e1 e2 e3
    refine ⟨u',r',?_⟩
    rcases q with q | ⟨k,c',e,z'⟩
    ·exact .inl q
    ·refine .inr ⟨k,c',e,z'.sameBut hs ?_⟩
     rintro rfl
     exact hj (zgO hN e1 (I.ok.inj _ _ _ e hc ▸ hi))
  ·by_cases hcc:c'=c
   ·subst hcc; exact ⟨_,hc'⟩
   ·obtain ⟨w2,z2⟩:=I.cell y c' e
    exact ⟨w2,z2.sameBut hs hcc⟩
  ·obtain ⟨e,n,ne,nf,d⟩:=I.pin p hp
   refine ⟨(hs.2 p.1 ?_).trans e,n,ne,nf,d⟩
   intro q
   rw [q,hoc] at e
   have q':oc=p.2:=Option.some.inj e
   exact d w' (by rw [<- q']; exact hocd)
theorem zch {M:Model} {A:Around} {E:Value->Shared->Prop} {i:Nat} {x:Str} {v:V} {u:Value} {Q:Unit->Shared->Prop} (I:Inv X pins σ H s) (hN:X.N.Nodup) (hi:X.N[i]?=some x) (hx:Loc X.env.scope x) (r:RelV v u)
  (h:∀ s',Inv X pins (σ.set i (some v)) H s'->Q () s') (hf:X.fn x=true \/ X.env.scope.names.lookup x=some .local):wpAny M A (storeName X.env x u) Q E s:=
 zfR I hN hi hx r (fun s' I' _=>h s' I') hf
theorem Inv.call' {s':Shared} {ch:List Addr} (I:Inv X pins σ H s) (ho:s'.os=s.os) (u:Un (frs X.stack) ch H H' s.heap s'.heap) (hok:HOk X.prog X.w H' s'.heap) (hg:AllBare s'.gens)
  (hch:∀ b∈ch,(b∈X.ex \/ X.s₀.heap.objs.size<=b) /\ b≠X.env.locals /\ (∀ x c,X.env.cells.lookup x=some c->c≠b) /\ ∀ p∈X.pn ++ pins,p.1≠b):Inv X pins σ H' s':=by
 obtain ⟨h',g',d',t',o'⟩:=s'
 have e:o'=s.os:=ho
 subst e
 exact I.call (g':=g') (t':=t') (d':=d') u hok hg hch
end
noncomputable abbrev XK:=Value->Option Addr->Hp->Prop
noncomputable abbrev St:=List (Option V)
noncomputable abbrev VK:=V->Hp->Prop
noncomputable abbrev TE:=St->Hp->VK->Prop
noncomputable abbrev TT:=St->Hp->(Bool->Hp->Prop)->Prop
noncomputable abbrev TA:=St->Hp->(List V->Hp->Prop)->Prop
structure Ends where
 nx:St->Hp->Prop
 rt:VK
 bk:St->Hp->Prop:=fun _ _=>False
 ct:St->Hp->Prop:=fun _ _=>False
noncomputable abbrev TS:=Ends->St->Hp->Prop
noncomputable def EP (X:Cx) (pins:List (Addr×Obj)) (σ:St) (Q:VK) (u:Value) (s':Shared):Prop:=∃ v H',Inv X pins σ H' s' /\ RelV v u /\ Q v H'
noncomputable def TP (X:Cx) (pins:List (Addr×Obj)) (σ:St) (Q:Bool->Hp->Prop) (b:Bool) (s':Shared):Prop:=∃ H',Inv X pins σ H' s' /\ Q b H'
noncomputable def AP (X:Cx) (pins:List (Addr×Obj)) (σ:St) (Q:List V->Hp->Prop) (us:List Value) (s':Shared):Prop:=∃ vs H',Inv X pins σ H' s' /\ Vals vs us /\ Q vs H'
noncomputable def SP (X:Cx) (pins:List (Addr×Obj)) (D:Ends) (f:Flow) (s':Shared):Prop:=
 match f with
 | .next=>∃ σ' H',Inv X pins σ' H' s' /\ D.nx σ' H'
 | .brk=>∃ σ' H',Inv X pins σ' H' s' /\ D.bk σ' H'
 | .cont=>∃ σ' H',Inv X pins σ' H' s' /\ D.ct σ' H'
 | .ret u=>∃ v σ' H',Inv X pins σ' H' s' /\ RelV v u /\ D.rt v H'
noncomputable def PE (X:Cx) (e:Expr) (t:TE):Prop:=
 ∀ (pins:List (Addr×Obj)) (s:Shared) (σ:St) (H:Hp) (Q:VK),Inv X pins σ H s->t σ H Q->wpAny (model X.prog X.w) X.A (eval e X.env) (EP X pins σ Q) X.xe s
noncomputable def PT (X:Cx) (e:Expr) (t:TT):Prop:=
 ∀ (pins:List (Addr×Obj)) (s:Shared) (σ:St) (H:Hp) (Q:Bool->Hp->Prop),Inv X pins σ H s->t σ H Q->wpAny (model X.prog X.w) X.A (isTrue e X.env (eval e X.env)) (TP X pins σ Q) X.xe s
noncomputable def PW (X:Cx) (e:Expr) (t:TT):Prop:=
 ∀ (whole:Sem Value) (pins:List (Addr×Obj)) (s:Shared) (σ:St) (H:Hp) (Q:Bool->Hp->Prop),Inv X pins σ H s->t σ H Q->wpAny (model X.prog X.w) X.A (isTrue e X.env whole) (TP X pins σ Q) X.xe s
theorem PW.pt {X:Cx} {e:Expr} {t:TT} (h:PW X e t):PT X e t:=h _
noncomputable def PA (X:Cx) (es:List Expr) (t:TA):Prop:=
 ∀ (pos:Pos) (pins:List (Addr×Obj)) (s:Shared) (σ:St) (H:Hp) (Q:List V->Hp->Prop),Inv X pins σ H s->t σ H Q->wpAny (model X.prog X.w) X.A (spliced (backTo pos (starEach es X.env))) (AP X pins σ Q) X.xe s
noncomputable def PS (X:Cx) (st:Stmt) (t:TS):Prop:=
 ∀ (pins:List (Addr×Obj)) (s:Shared) (σ:St) (H:Hp) (D:Ends),Inv X pins σ H s->t D σ H->wpAny (model X.prog X.w) X.A (exec st X.env) (SP X pins D) X.xe s
noncomputable def PSs (X:Cx) (st:List Stmt) (t:TS):Prop:=
 ∀ (pins:List (Addr×Obj)) (s:Shared) (σ:St) (H:Hp) (D:Ends),Inv X pins σ H s->t D σ H->wpAny (model X.prog X.w) X.A (execs st X.env) (SP X pins D) X.xe s
theorem thn {α:Type} {t:Sem α} {Q Q':α->Shared->Prop} {M:Model} {A:Around} {E:Value->Shared->Prop} {s:Shared} (h:wpAny M A t Q E s) (hQ:∀ a s,Q a s->Q' a s):wpAny M A t Q' E s:=wpAny_mono h hQ fun _ _ x=>x
end L2
namespace L2
open PySem PySem.Spec PyProof.Rows
section
variable {X:Cx}
noncomputable def tVar (i:Nat):TE:=fun σ H Q=>∃ v,σ[i]?=some (some v) /\ Q v H
noncomputable def tC (v:V):TE:=fun _ H Q=>Q v H
theorem zla {i:Nat} {x:Str} {pos:Pos} (hN:X.N[i]?=some x) (hv:Vis X.env.scope x) (hd:(x == ("__debug__":Str))=false:=by decide) (hcd:(x == ("__classdict__":Str))=false:=by decide):PE X (.Name x pos) (tVar i):=by
 intro pins s σ H Q I h
 obtain ⟨v,e,h⟩:=h
 obtain ⟨m,hn,hl⟩:=I.loc
 obtain ⟨u,r,l⟩:=hl i x v hN e hv
 have fin:EP X pins σ Q u s:=⟨v,H,I,r,h⟩
 rcases l with ⟨hk,hm⟩ | ⟨hk,c,hc,hcell⟩
 ·exact wpAny_Name (wpAny_loadName_local I.ok.kind hk hn hm fin) hd
 ·rcases hk with hk | hk
  ·exact wpAny_Name (wpAny_loadName_cell I.ok.kind hk hc hcell fin) hd
  ·exact wpAny_Name (wpAny_loadName_free I.ok.kind hk hc hcell fin hcd) hd
theorem zf {i j pos}:PE X (.Constant (.int i) j pos) (tC (.int i)):=fun _ _ _ H _ I h=>wpAny_Constant_int ⟨.int i,H,I.tok _,⟨_,rfl⟩,h⟩
theorem zmn {b j pos}:PE X (.Constant (.bool b) j pos) (tC (.bl b)):=fun _ _ _ H _ I h=>Constant_bool ⟨.bl b,H,I,rfl,h⟩
theorem zhJ {j pos}:PE X (.Constant .none j pos) (tC .non):=fun _ _ _ H _ I h=>Constant_none ⟨.non,H,I,rfl,h⟩
theorem za8 {x j pos}:PE X (.Constant (.str x) j pos) (tC (.str x)):=fun _ _ _ H _ I h=>Calls.Constant_str ⟨.str x,H,I.tok _,⟨_,rfl⟩,h⟩
noncomputable def Gl (X:Cx) (x:Str):Prop:=X.env.kindOf x=some .globalImplicit
theorem zcA {E:Value->Shared->Prop} {pins:List (Addr×Obj)} {s:Shared} {σ:St} {H:Hp} {x:Str} {u:Value} {pos:Pos} {Q:Value->Shared->Prop} (I:Inv X pins σ H s) (hg:Gl X x) (hm:X.mg x=some u) (h:Q u s)
  (hd:(x == ("__debug__":Str))=false:=by decide):wpAny (model X.prog X.w) X.A (eval (.Name x pos) X.env) Q E s:=
 Calls.Name_function_global I.ok.kind hg (Calls.loadGlobal_global (by rw [I.ok.glob]; exact I.mod.glob.keeps I.bk) hm h) hd
theorem zcT {E:Value->Shared->Prop} {pins:List (Addr×Obj)} {s:Shared} {σ:St} {H:Hp} {x:Str} {u:Value} {pos:Pos} {Q:Value->Shared->Prop} (I:Inv X pins σ H s) (hg:Gl X x) (hm:X.mg x=none) (hv:bootBuiltins x=some u) (h:Q u s)
  (hn:x≠"__name__":=by decide) (hd:(x == ("__debug__":Str))=false:=by decide):wpAny (model X.prog X.w) X.A (eval (.Name x pos) X.env) Q E s:=by
 obtain ⟨mb,h1,h2⟩:=I.mod.blt
 exact Calls.Name_function_global I.ok.kind hg (Calls.loadGlobal_builtin (by rw [I.ok.glob]; exact I.mod.glob.keeps I.bk) hm (by rw [I.ok.blt]; exact h1.keeps I.bk) ((h2 x hn).trans hv) h) hd
theorem zl4 {x:Str} {v:V} {u:Value} {pos:Pos} (hg:Gl X x) (hm:X.mg x=some u) (r:RelV v u) (hd:(x == ("__debug__":Str))=false:=by decide):PE X (.Name x pos) (tC v):=
 fun _ _ _ H _ I h=>zcA I hg hm ⟨v,H,I,r,h⟩ hd
theorem ziC {x:Str} {v:V} {u:Value} {pos:Pos} (hg:Gl X x) (hm:X.mg x=none) (hv:bootBuiltins x=some u) (r:RelV v u) (hn:x≠"__name__":=by decide) (hd:(x == ("__debug__":Str))=false:=by decide):PE X (.Name x pos) (tC v):=
 fun _ _ _ H _ I h=>zcT I hg hm hv ⟨v,H,I,r,h⟩ hn hd
variable {a b:Expr} {ta tb:TE} {pos:Pos}
variable {tA tB':TT} {rest:List Expr}
noncomputable def tAnd (t u:TT):TT:=fun σ H Q=>t σ H fun c H1=>if c=true then u σ H1 Q else Q false H1
noncomputable def tOr (t u:TT):TT:=fun σ H Q=>t σ H fun c H1=>if c=true then Q true H1 else u σ H1 Q
noncomputable def tNot (t:TT):TT:=fun σ H Q=>t σ H fun c H1=>Q (!c) H1
theorem zcv (ha:PT X a tA):PW X (.BoolOp .And [a] pos) tA:=by
 intro wh pins s σ H Q I h
 refine isTrue_and (thn (ha pins s σ H Q I h) fun c s1 e=>?_)
 cases c with
 | true=>exact isTrue_and_nil e
 | false=>exact e
theorem zdx (ha:PT X a tA):PW X (.BoolOp .Or [a] pos) tA:=by
 intro wh pins s σ H Q I h
 refine isTrue_or (thn (ha pins s σ H Q I h) fun c s1 e=>?_)
 cases c with
 | false=>exact isTrue_or_nil e
 | true=>exact e
theorem zns (ha:PT X a tA) (hb:PW X (.BoolOp .And (b :: rest) pos) tB'):PW X (.BoolOp .And (a :: b :: rest) pos) (tAnd tA tB'):=by
 intro wh pins s σ H Q I h
 refine isTrue_and (thn (ha pins s σ H _ I h) fun c s1 ⟨H1,I1,q1⟩=>?_)
 cases c with
 | true=>exact hb wh pins s1 σ H1 Q I1 q1
 | false=>exact ⟨H1,I1,q1⟩
theorem zoz (ha:PT X a tA) (hb:PW X (.BoolOp .Or (b :: rest) pos) tB'):PW X (.BoolOp .Or (a :: b :: rest) pos) (tOr tA tB'):=by
 intro wh pins s σ H Q I h
 refine isTrue_or (thn (ha pins s σ H _ I h) fun c s1 ⟨H1,I1,q1⟩=>?_)
 cases c with
 | true=>exact ⟨H1,I1,q1⟩
 | false=>exact hb wh pins s1 σ H1 Q I1 q1
theorem znQ (ha:PT X a tA):PT X (.UnaryOp .Not a pos) (tNot tA):=by
 intro pins s σ H Q I h
 exact isTrue_not (ha pins s σ H (fun c H1=>Q (!c) H1) I h)
noncomputable def tAndV (ta tb:TE):TE:=fun σ H Q=>ta σ H fun x H1=>∃ c,x=.bl c /\ if c=true then tb σ H1 Q else Q (.bl false) H1
noncomputable def tNotV (ta:TE):TE:=fun σ H Q=>ta σ H fun x H1=>∃ c,x=.bl c /\ Q (.bl (!c)) H1
theorem zof {op} {t:TE} (h:PE X a t):PE X (.BoolOp op [a] pos) t:=fun pins s σ H Q I hw=>BoolOp_one (h pins s σ H Q I hw)
theorem zna (ha:PE X a ta) (hb:PE X (.BoolOp .And (b :: rest) pos) tb):PE X (.BoolOp .And (a :: b :: rest) pos) (tAndV ta tb):=by
 intro pins s σ H Q I h
 refine BoolOp_and (thn (ha pins s σ H _ I h) fun v s1 ⟨x,H1,I1,r1,q1⟩=>?_)
 obtain ⟨c,rfl,q1⟩:=q1
 cases r1
 refine wpAny_truthy_bool ?_
 cases c with
 | true=>exact hb pins s1 σ H1 Q I1 q1
 | false=>exact ⟨.bl false,H1,I1,rfl,q1⟩
theorem znS (ha:PE X a ta):PE X (.UnaryOp .Not a pos) (tNotV ta):=by
 intro pins s σ H Q I h
 refine UnaryOp_ (thn (ha pins s σ H _ I h) fun v s1 ⟨x,H1,I1,r1,q1⟩=>?_)
 obtain ⟨c,rfl,q1⟩:=q1
 cases r1
 exact not_of (wpAny_truthy_bool ⟨.bl (!c),H1,I1,rfl,q1⟩)
end
end L2
namespace L2
open PySem PySem.Spec PyProof.Rows
noncomputable def SqL (K:PySem.W.Frag) (H:Hp) (a:Addr) (xs:List V):Prop:=
 Rd H a (.lst xs) \/
  ∃ (o:Obj) (its:Array Value) (n:Nat),K.lookup a=some o /\ o.cls=.type "list" /\ o.dict=none /\ o.data=.seq its n /\ its.size<=sizeLine /\ Vals xs its.toList
noncomputable def SqT (K:PySem.W.Frag) (H:Hp) (a:Addr) (xs:List V):Prop:=
 Rd H a (.tup xs) \/
  ∃ (o:Obj) (its:Array Value) (n:Nat),K.lookup a=some o /\ o.cls=.type "tuple" /\ o.data=.seq its n /\ its.size<=sizeLine /\ Vals xs its.toList
noncomputable def absV:Value->Option V
 | .none=>some .non
 | .bool b=>some (.bl b)
 | .int i _=>some (.int i)
 | .str x _=>some (.str x)
 | .bytes b _=>some (.byt b)
 | .float b _=>some (.flt b)
 | .ref a=>some (.ref a)
 | .type n=>some (.ty n)
 | _=>none
theorem RelV.abs {x:V} {u:Value} (r:RelV x u):absV u=some x:=by
 cases x with
 | non=>cases r; rfl
 | bl _=>cases r; rfl
 | int _=>obtain ⟨t,rfl⟩:=r; rfl
 | str _=>obtain ⟨t,rfl⟩:=r; rfl
 | byt _=>obtain ⟨t,rfl⟩:=r; rfl
 | flt _=>obtain ⟨t,rfl⟩:=r; rfl
 | ref _=>cases r; rfl
 | ty _=>cases r; rfl
theorem RelV.inj {x y:V} {u:Value} (r:RelV x u) (q:RelV y u):x=y:=Option.some.inj (r.abs.symm.trans q.abs)
theorem Vals.inj:∀ {xs ys:List V} {us:List Value},Vals xs us->Vals ys us->xs=ys
 | _,_,_,.nil,.nil=>rfl
 | _,_,_,.cons r t,.cons r' t'=>by rw [r.inj r',Vals.inj t t']
section
variable {X:Cx} {pins:List (Addr×Obj)} {σ:St} {H:Hp} {s:Shared} {a:Addr} {xs ys:List V}
theorem SqL.of {K:PySem.W.Frag} (h:H a=some (.lst xs)):SqL K H a xs:=.inl (.inl h)
theorem Inv.list (I:Inv X pins σ H s) (h:SqL X.K H a xs):∃ its:List Value,Vals xs its /\ PlainL s.heap a its.toArray /\ xs.length<=sizeLine:=by
 rcases h with h | ⟨o,its,n,hk,hc,hd,hs,hz,r⟩
 ·obtain ⟨z,its,n,r,e⟩:=h.ok I.hok
  exact ⟨its,r,⟨_,n,e,rfl,rfl,rfl⟩,z⟩
 ·refine ⟨its.toList,r,⟨o,n,I.kIn a o hk,hc,hd,by simpa using hs⟩,?_⟩
  have e:=r.length
  simp only [Array.length_toList] at e
  omega
theorem Inv.tuple (I:Inv X pins σ H s) (h:SqT X.K H a xs):∃ its:List Value,Vals xs its /\ IsTup s.heap a its.toArray /\ xs.length<=sizeLine:=by
 rcases h with h | ⟨o,its,n,hk,hc,hs,hz,r⟩
 ·obtain ⟨z,its,r,p⟩:=h.ok I.hok
  exact ⟨its,r,p,z⟩
 ·refine ⟨its.toList,r,⟨o,I.kIn a o hk,hc,n,by simpa using hs⟩,?_⟩
  have e:=r.length
  simp only [Array.length_toList] at e
  omega
theorem Inv.list_inj (I:Inv X pins σ H s) (h:SqL X.K H a xs) (h':SqL X.K H a ys):xs=ys:=by
 obtain ⟨its,r,⟨o,n,e,_,_,d⟩,_⟩:=I.list h
 obtain ⟨its',r',⟨o',n',e',_,_,d'⟩,_⟩:=I.list h'
 rw [e] at e'; cases e'
 rw [d] at d'
 injection d' with d1 _
 have:its=its':=by simpa using congrArg Array.toList d1
 subst this
 exact r.inj r'
theorem Inv.tuple_inj (I:Inv X pins σ H s) (h:SqT X.K H a xs) (h':SqT X.K H a ys):xs=ys:=by
 obtain ⟨its,r,⟨o,e,_,n,d⟩,_⟩:=I.tuple h
 obtain ⟨its',r',⟨o',e',_,n',d'⟩,_⟩:=I.tuple h'
 rw [e] at e'; cases e'
 rw [d] at d'
 injection d' with d1 _
 have:its=its':=by simpa using congrArg Array.toList d1
 subst this
 exact r.inj r'
end
noncomputable abbrev Cx.wish (X:Cx) (E:Value->Shared->Prop):Cx:={ X with xe:=E }
noncomputable abbrev Cx.nox (X:Cx):Cx:=X.wish fun _ _=>False
theorem Cx.Ok.wish {X:Cx} (ok:X.Ok) (E:Value->Shared->Prop):(X.wish E).Ok:=
 ⟨ok.mod,ok.kind,ok.glob,ok.blt,ok.above,ok.inj,ok.has,ok.cab,ok.hd,ok.frames,ok.stk,ok.exf,ok.bs,ok.bsz,ok.noex,ok.exfs,ok.funs,ok.frf⟩
theorem Cx.Ok.unwish {X:Cx} {E:Value->Shared->Prop} (ok:(X.wish E).Ok):X.Ok:=
 ⟨ok.mod,ok.kind,ok.glob,ok.blt,ok.above,ok.inj,ok.has,ok.cab,ok.hd,ok.frames,ok.stk,ok.exf,ok.bs,ok.bsz,ok.noex,ok.exfs,ok.funs,ok.frf⟩
section
variable {X:Cx} {pins:List (Addr×Obj)} {σ:St} {H:Hp} {s:Shared} {E:Value->Shared->Prop}
theorem Inv.wish (I:Inv X pins σ H s) (E:Value->Shared->Prop):Inv (X.wish E) pins σ H s:=⟨I.ok.wish E,I.os,I.bare,I.base,I.loc,I.cell,I.free,I.freeC,I.pin,I.hok,I.len⟩
theorem Inv.unwish (I:Inv (X.wish E) pins σ H s):Inv X pins σ H s:=⟨I.ok.unwish,I.os,I.bare,I.base,I.loc,I.cell,I.free,I.freeC,I.pin,I.hok,I.len⟩
theorem SP.unwish {D:Ends} {f:Flow} {s':Shared} (h:SP (X.wish E) pins D f s'):SP X pins D f s':=by
 cases f with
 | next=>obtain ⟨σ',H',I,q⟩:=h; exact ⟨σ',H',I.unwish,q⟩
 | brk=>obtain ⟨σ',H',I,q⟩:=h; exact ⟨σ',H',I.unwish,q⟩
 | cont=>obtain ⟨σ',H',I,q⟩:=h; exact ⟨σ',H',I.unwish,q⟩
 | ret u=>obtain ⟨v,σ',H',I,r,q⟩:=h; exact ⟨v,σ',H',I.unwish,r,q⟩
theorem PSs.nox {st:List Stmt} {t:TS} (h:PSs X.nox st t):PSs X st t:=fun pins s σ H D I hw=>
 wpAny_mono (h pins s σ H D (I.wish _) hw) (fun _ _ q=>q.unwish) fun _ _ z=>False.elim z
end
section
variable {X:Cx} {st:Stmt} {rest:List Stmt} {t u:TS} {e:Expr} {te:TE} {pos:Pos}
noncomputable def tNext:TS:=fun D σ H=>D.nx σ H
noncomputable def tSeq (t u:TS):TS:=fun D σ H=>t { D with nx:=u D } σ H
theorem zmD:PSs X [] tNext:=fun _ _ σ H _ I h=>wpAny_execs_nil ⟨σ,H,I,h⟩
theorem zkb (h1:PS X st t) (h2:PSs X rest u):PSs X (st :: rest) (tSeq t u):=by
 intro pins s σ H D I h
 refine wpAny_execs_cons (thn (h1 pins s σ H { D with nx:=u D } I h) fun f s1 q=>?_)
 cases f with
 | next=>
   obtain ⟨σ',H',I',q⟩:=q
   exact h2 pins s1 σ' H' D I' q
 | ret v=>exact q
 | brk=>exact q
 | cont=>exact q
theorem zlW (h1:PS X st t):PSs X [st] t:=by
 intro pins s σ H D I h
 refine wpAny_execs_cons (thn (h1 pins s σ H D I h) fun f s1 q=>?_)
 cases f with
 | next=>exact wpAny_execs_nil q
 | ret v=>exact q
 | brk=>exact q
 | cont=>exact q
theorem Inv.quiet {pins:List (Addr×Obj)} {σ:St} {H:Hp} {s:Shared} (I:Inv X pins σ H s):interactive X.env=false:=by simp [interactive,I.ok.kind]
noncomputable def tDrop (te:TE):TS:=fun D σ H=>te σ H fun _ H1=>D.nx σ H1
theorem zaL (he:PE X e te) (hs:swapsWith e none pos.line X.env=pure false:=by rfl):PS X (.Expr e pos) (tDrop te):=by
 intro pins s σ H D I h
 exact wpAny_Expr_any (thn (he pins s σ H _ I h) fun v s1 ⟨x,H1,I1,r1,q1⟩=>⟨σ,H1,I1,q1⟩) I.quiet hs
noncomputable def tRet (te:TE):TS:=fun D σ H=>te σ H D.rt
theorem ziq (he:PE X e te):PS X (.Return (some e) pos) (tRet te):=by
 intro pins s σ H D I h
 exact wpAny_Return_some (thn (he pins s σ H _ I h) fun v s1 ⟨x,H1,I1,r1,q1⟩=>⟨x,σ,H1,I1,r1,q1⟩)
noncomputable def tIfS (c:TT) (t u:TS):TS:=fun D σ H=>c σ H fun b H1=>if b=true then t D σ H1 else u D σ H1
theorem zol {c:Expr} {a b:List Stmt} {tc:TT} (hc:PT X c tc) (ha:PSs X a t) (hb:PSs X b u):PS X (.If c a b pos) (tIfS tc t u):=by
 intro pins s σ H D I h
 refine wpAny_If (thn (hc pins s σ H _ I h) fun d s1 ⟨H1,I1,q1⟩=>?_)
 cases d with
 | true=>exact ha pins s1 σ H1 D I1 q1
 | false=>exact hb pins s1 σ H1 D I1 q1
noncomputable def tNever:TS:=fun _ _ _=>False
theorem zki:PS X st tNever:=fun _ _ _ _ _ _ h=>h.elim
end
noncomputable abbrev TG:=V->St->Hp->(St->Hp->Prop)->Prop
noncomputable abbrev TGs:=List V->St->Hp->(St->Hp->Prop)->Prop
noncomputable def PG (X:Cx) (target:Expr) (t:TG):Prop:=
 ∀ (pins:List (Addr×Obj)) (s:Shared) (σ:St) (H:Hp) (v:V) (u:Value) (Q:St->Hp->Prop),Inv X pins σ H s->RelV v u->t v σ H Q->
   wpAny (model X.prog X.w) X.A (assign target X.env u) (fun _ s'=>∃ σ' H',Inv X pins σ' H' s' /\ Q σ' H') X.xe s
noncomputable def PGs (X:Cx) (ts:List Expr) (t:TGs):Prop:=
 ∀ (pins:List (Addr×Obj)) (s:Shared) (σ:St) (H:Hp) (vs:List V) (us:List Value) (Q:St->Hp->Prop),Inv X pins σ H s->Vals vs us->t vs σ H Q->
   wpAny (model X.prog X.w) X.A (assignInOrder ((assignEach ts X.env).map (·.2)) us) (fun _ s'=>∃ σ' H',Inv X pins σ' H' s' /\ Q σ' H') X.xe s
section
variable {X:Cx} {pos:Pos}
noncomputable def gName (i:Nat):TG:=fun v σ H Q=>Q (σ.set i (some v)) H
theorem zO {i:Nat} {x:Str} (hN:X.N.Nodup) (hi:X.N[i]?=some x) (hx:Loc X.env.scope x) (hf:X.fn x=true \/ X.env.scope.names.lookup x=some .local:=by first | exact .inl rfl | exact .inr rfl | assumption):PG X (.Name x pos) (gName i):=by
 intro pins s σ H v u Q I r h
 exact wpAny_assign_Name (zch I hN hi hx r (fun s' I'=>⟨_,H,I',h⟩) hf)
noncomputable def gNil:TGs:=fun vs σ H Q=>vs=[] /\ Q σ H
noncomputable def gCons (t:TG) (u:TGs):TGs:=fun vs σ H Q=>∃ v r,vs=v :: r /\ t v σ H fun σ' H'=>u r σ' H' Q
theorem zlN:PGs X [] gNil:=by
 intro pins s σ H vs us Q I r h
 obtain ⟨e,h⟩:=h
 subst e
 cases r
 exact assignInOrder_nil ⟨σ,H,I,h⟩
theorem zjV {e:Expr} {es:List Expr} {t:TG} {u:TGs} (h1:PG X e t) (h2:PGs X es u)
  (hs:(assignEach (e :: es) X.env).map (·.2)=assign e X.env :: (assignEach es X.env).map (·.2):=by rfl):PGs X (e :: es) (gCons t u):=by
 intro pins s σ H vs us Q I r h
 obtain ⟨v,vr,e1,h⟩:=h
 subst e1
 cases r with
 | cons r rr=>
   rw [hs]
   refine assignInOrder_cons (thn (h1 pins s σ H _ _ _ I r h) fun _ s1 ⟨σ1,H1,I1,q1⟩=>?_)
   exact h2 pins s1 σ1 H1 _ _ Q I1 rr q1
noncomputable def gTup (K:PySem.W.Frag) (n:Nat) (t:TGs):TG:=fun v σ H Q=>∃ a xs,v=.ref a /\ SqT K H a xs /\ xs.length=n /\ t xs σ H Q
theorem znL {es:List Expr} {k:Nat} {t:TGs} {n:Nat} (hc:X.calm=true) (h:PGs X es t)
  (hn:(assignEach es X.env).length=n:=by rfl) (hst:(assignEach es X.env).findIdx? (·.1)=none:=by rfl):PG X (.Tuple es k pos) (gTup X.K n t):=by
 intro pins s σ H v u Q I r hw
 obtain ⟨a,xs,e1,hq,hl,hw⟩:=hw
 subst e1
 cases r
 obtain ⟨its,rv,ht,hz⟩:=I.tuple hq
 refine assign_Tuple_tuple (I.ok.hd hc) ht (by simp [hn,<- hl,rv.length]) hst fun h' hx=>?_
 have I1:Inv X pins σ H { s with heap:=h' }:=I.kept (t':=s.toks) fun b o e=>hx b o (Nat.ne_of_lt (Heap.lt_size e)) e
 exact h pins _ σ H xs _ Q I1 (by simpa using rv) hw
noncomputable def tAsg (te:TE) (g:TG):TS:=fun D σ H=>te σ H fun x H1=>g x σ H1 D.nx
theorem zl {i:Nat} {x:Str} {e:Expr} {te:TE} {pos':Pos} (hN:X.N.Nodup) (hi:X.N[i]?=some x) (hx:Loc X.env.scope x) (he:PE X e te) (hs:swapsWith e (some (.Name x pos')) pos.line X.env=pure false:=by rfl) (hf:X.fn x=true \/ X.env.scope.names.lookup x=some .local:=by first | exact .inl rfl | exact .inr rfl | assumption):
  PS X (.Assign [.Name x pos'] e pos) (tAsg te (gName i)):=by
 intro pins s σ H D I h
 refine wpAny_Assign_Name (thn (he pins s σ H _ I h) fun v s1 ⟨y,H1,I1,r1,q1⟩=>?_) hs
 exact zch I1 hN hi hx r1 (fun s2 I2=>⟨_,H1,I2,q1⟩) hf
noncomputable def tPar (i j:Nat) (ta:TA):TS:=fun D σ H=>ta σ H fun vs H1=>∃ v w,vs=[v,w] /\ D.nx ((σ.set i (some v)).set j (some w)) H1
theorem znD {i j:Nat} {x y:Str} {a b:Expr} {ta:TA} {px py pt:Pos} {kt k2 pt2} (hc:X.calm=true) (hN:X.N.Nodup) (hi:X.N[i]?=some x) (hj:X.N[j]?=some y) (hij:i≠j)
  (hx:X.env.scope.names.lookup x=some .local) (hy:X.env.scope.names.lookup y=some .local) (ha:PA X [a,b] ta)
  (hw:swappedStores [.Tuple [.Name x px,.Name y py] kt pt] (.Tuple [a,b] k2 pt2) X.env=pure (some [x,y]))
  (hs:swapsWithSole [.Tuple [.Name x px,.Name y py] kt pt] (.Tuple [a,b] k2 pt2) pos.line X.env=pure false:=by rfl):
  PS X (.Assign [.Tuple [.Name x px,.Name y py] kt pt] (.Tuple [a,b] k2 pt2) pos) (tPar i j ta):=by
 intro pins s σ H D I h
 rw [exec_Assign_arm]
 refine wpAny_bind (wpAny_standAt ?_)
 rw [hs]
 refine wpAny_bind (wpAny_pure ?_)
 rw [if_neg (by decide)]
 refine wpAny_bind (Tuple_ (thn (ha _ pins s σ H _ I h) fun us s1 ⟨vs,H1,I1,r1,q1⟩=>?_))
 obtain ⟨v,w,e1,q1⟩:=q1
 subst e1
 obtain ⟨u1,u2,rfl,rv,rw'⟩:∃ u1 u2,us=[u1,u2] /\ RelV v u1 /\ RelV w u2:=by
  cases r1 with
  | cons p q=>
    cases q with
    | cons p' q'=>
      cases q'
      exact ⟨_,_,rfl,p,p'⟩
 refine wpAny_newObj_type ?_ (by show 2<=sizeLine; decide)
 have I2:Inv X pins σ H1 { s1 with heap:=s1.heap.push { cls:=.type "tuple",data:=.seq [u1,u2].toArray } }:=I1.kept (t':=s1.toks) fun b o e=>Heap.get?_push_of_some _ e
 rw [hw]
 refine wpAny_bind (wpAny_pure ?_)
 show wpAny (model X.prog X.w) X.A (do rule "assign.swapped-stores"; let items <- unpackItems (.ref s1.heap.objs.size) 2 none; assignInOrder [fun v=>bindName X.env y v,fun v=>bindName X.env x v] items.reverse; pure Flow.next) _ _ _
 refine wpAny_bind (wpAny_rule (wpAny_bind (unpackItems_tuple (items:=#[u1,u2]) (I.ok.hd hc) (IsTup.new s1.heap _) fun h' hx'=>?_)))
 have I3:=I2.kept (h':=h') (t':=s1.toks) fun b o e=>hx' b o (Nat.ne_of_lt (Heap.lt_size e)) e
 show wpAny _ _ (assignInOrder [fun v=>bindName X.env y v,fun v=>bindName X.env x v] [u2,u1] >>= fun _=>pure Flow.next) _ _ _
 refine wpAny_bind (assignInOrder_cons (wpAny_bindName (zch I3 hN hj (.inl hy) rw' (fun s2 I4=>?_) (.inr hy))))
 refine assignInOrder_cons (wpAny_bindName (zch I4 hN hi (.inl hx) rv (fun s3 I5=>assignInOrder_nil (wpAny_pure ?_)) (.inr hx)))
 rw [List.set_comm _ _ (Ne.symm hij)] at I5
 exact ⟨_,H1,I5,q1⟩
end
section
variable {X:Cx} {pos:Pos}
noncomputable def tWhile (c:TT) (tb:TS):TS:=fun D σ H=>∃ W:Nat->St->Hp->Prop,(∃ m,W m σ H) /\ ∀ m σ H,W m σ H->
 c σ H fun b H1=>if b=true then ∃ N:St->Hp->Prop,(∀ σ' H',N σ' H'->∃ m',m' < m /\ W m' σ' H') /\ tb { D with nx:=N,ct:=N,bk:=D.nx } σ H1 else D.nx σ H1
theorem zkk {c:Expr} {body:List Stmt} {tc:TT} {tb:TS} (hp:PassesOwn (model X.prog X.w) X.A X.env X.xe) (hc:PT X c tc) (hb:PSs X body tb):PS X (.While c body [] pos) (tWhile tc tb):=by
 intro pins s σ H D I h
 obtain ⟨W,⟨m0,w0⟩,turn⟩:=h
 refine wpAny_While (codeAny_whileLoop (fun n s'=>∃ σ' H',Inv X pins σ' H' s' /\ W n σ' H') ?_ m0 ⟨σ,H,I,w0⟩)
 rintro n s1 ⟨σ1,H1,I1,w1⟩
 refine wpAny_passesOwn hp (thn (hc pins s1 σ1 H1 _ I1 (turn n σ1 H1 w1)) fun b s2 ⟨H2,I2,q2⟩=>?_)
 cases b with
 | true=>
   obtain ⟨N,hN,q2⟩:=q2
   rw [if_pos rfl]
   refine wpAny_passesOwn hp (thn (hb pins s2 σ1 H2 _ I2 q2) fun f s3 q3=>?_)
   cases f with
   | next=>
     obtain ⟨σ3,H3,I3,n3⟩:=q3
     obtain ⟨m',hm,w3⟩:=hN σ3 H3 n3
     exact ⟨m',hm,σ3,H3,I3,w3⟩
   | cont=>
     obtain ⟨σ3,H3,I3,n3⟩:=q3
     obtain ⟨m',hm,w3⟩:=hN σ3 H3 n3
     exact ⟨m',hm,σ3,H3,I3,w3⟩
   | brk=>exact q3
   | ret v=>exact q3
 | false=>
   rw [if_neg Bool.false_ne_true]
   exact wpAny_execs_nil ⟨σ1,H2,I2,q2⟩
end
structure It where
 go:Nat->Hp->Prop
 yld:Nat->Hp->V->Hp->Prop
 stop:Nat->Hp->Prop
noncomputable def FpOk (X:Cx) (pins:List (Addr×Obj)) (H:Hp) (b:Addr):Prop:=
 H b=none /\ b≠X.env.locals /\ b∉X.fs /\ (b∈X.ex \/ X.s₀.heap.objs.size<=b) /\ (∀ x c,X.env.cells.lookup x=some c->c≠b) /\ ∀ p∈X.pn ++ pins,p.1≠b
theorem Inv.fpOk {X:Cx} {pins:List (Addr×Obj)} {σ:St} {H H':Hp} {s:Shared} {b:Addr} (I:Inv X pins σ H s) (hb:s.heap.objs.size<=b) (hn:H' b=none):FpOk X pins H' b:=by
 refine ⟨hn,Nat.ne_of_gt (Nat.lt_of_lt_of_le I.lt hb),I.nofs hb,.inr (Nat.le_trans I.sz hb),fun x c e z=>?_,fun p hp z=>?_⟩
 ·obtain ⟨v,q⟩:=I.cell x c e
  exact absurd (Nat.lt_of_lt_of_le q.lt (by rw [z]; exact hb)) (Nat.lt_irrefl _)
 ·exact absurd (Nat.lt_of_lt_of_le (Heap.lt_size (I.pin p hp).1) (by rw [z]; exact hb)) (Nat.lt_irrefl _)
noncomputable abbrev calmG (X:Cx):Prop:=X.calm=true
structure TurnG (gd:Cx->Prop) (P:Program) (w:World) (K:PySem.W.Frag) (tg:Expr) (J:It) (fp:List Addr) (it:Addr) (tn:Nat->Heap->Prop):Prop where
 mem:it∈fp
 obj:∀ i h,tn i h->∀ b∈fp,∃ o,h.get? b=some o /\ ∀ v,o.data≠.cell v
 keep:∀ i h h',tn i h->(∀ b∈fp,∀ o,h.get? b=some o->h'.get? b=some o)->tn i h'
 item:∀ (X:Cx),X.prog=P->X.w=w->X.K=K->gd X->∀ (i:Nat) (pins:List (Addr×Obj)) (s:Shared) (σ:St) (H:Hp) (E:Value->Shared->Prop),Inv X pins σ H s->(∀ b∈fp,FpOk X pins H b)->tn i s.heap->J.go i H->
  wpAny (model P w) X.A (pyNext (.ref it)) (fun r s1=>∃ u,r=some u /\
   wpAny (model P w) X.A (letOwnedTupleGo tg (.ref it) u) (fun _ s2=>∃ x H',Inv X pins σ H' s2 /\ RelV x u /\ J.yld i H x H' /\ tn (i + 1) s2.heap /\ ∀ b∈fp,H' b=none) E s1) E s
 done:∀ (X:Cx),X.prog=P->X.w=w->X.K=K->gd X->∀ (i:Nat) (pins:List (Addr×Obj)) (s:Shared) (σ:St) (H:Hp) (E:Value->Shared->Prop),Inv X pins σ H s->(∀ b∈fp,FpOk X pins H b)->tn i s.heap->J.stop i H->
  wpAny (model P w) X.A (pyNext (.ref it)) (fun r s1=>r=none /\ Inv X pins σ H s1) E s
 self:∀ (A:Around) (i:Nat) (s:Shared) (Q:Value->Shared->Prop) (E:Value->Shared->Prop),tn i s.heap->Q (.ref it) s->wpAny (model P w) A (pyIter (.ref it)) Q E s
noncomputable abbrev Turn:=TurnG calmG
noncomputable abbrev TI:=St->Hp->(It->Hp->Prop)->Prop
noncomputable def PIEG (gd:Cx->Prop) (X:Cx) (pins:List (Addr×Obj)) (σ:St) (tg:Expr) (R:It->Hp->Prop) (itv:Value) (s2:Shared):Prop:=
 ∃ (it:Addr) (fp:List Addr) (tn:Nat->Heap->Prop) (J:It) (H':Hp),itv=.ref it /\ Inv X pins σ H' s2 /\ TurnG gd X.prog X.w X.K tg J fp it tn /\ tn 0 s2.heap /\ (∀ b∈fp,FpOk X pins H' b) /\ R J H'
noncomputable abbrev PIE:=PIEG calmG
noncomputable def PIG (gd:Cx->Prop) (X:Cx) (tg iter:Expr) (wi:TI):Prop:=
 ∀ (pins:List (Addr×Obj)) (s:Shared) (σ:St) (H:Hp) (R:It->Hp->Prop),Inv X pins σ H s->wi σ H R->
   wpAny (model X.prog X.w) X.A (eval iter X.env) (fun v s1=>wpAny (model X.prog X.w) X.A (pyIter v) (PIEG gd X pins σ tg R) X.xe s1) X.xe s
noncomputable abbrev PI:=PIG calmG
theorem zkO {M:Model} {A:Around} {E:Value->Shared->Prop} {s:Shared} {tg:Expr} {it:Addr} {u:Value} {o:Obj} {n:String} {vs:Array Value} {Q:Unit->Shared->Prop} (ho:s.heap.get? it=some o) (hc:o.cls=.type n) (hd:o.data=.fields vs)
  (hn:["enumerate","zip","dict_itemiterator","dict_reverseitemiterator","odict_iterator","itertools.zip_longest","itertools.pairwise"].contains n=false) (hQ:Q () s):wpAny M A (letOwnedTupleGo tg (.ref it) u) Q E s:=by
 unfold letOwnedTupleGo
 cases tg <;> first
  | exact wpAny_pure hQ
  | (cases u <;> first
    | exact wpAny_pure hQ
    | (refine wpAny_bind (wpAny_load ho ?_)
       rw [hc,hd]
       show wpAny M A (if (["enumerate","zip","dict_itemiterator","dict_reverseitemiterator","odict_iterator","itertools.zip_longest","itertools.pairwise"].contains n && vs[0]? == some (rawInt _))=true then _ else _) Q E s
       rw [if_neg (by intro h; rw [hn,Bool.false_and] at h; cases h)]
       exact wpAny_pure hQ))
noncomputable def Itl (K:PySem.W.Frag) (a:Addr):It:=
 ⟨fun i H=>∃ xs x,SqL K H a xs /\ xs[i]?=some x,fun i H x H'=>H'=H /\ ∀ xs,SqL K H a xs->xs[i]?=some x,fun i H=>∃ xs,SqL K H a xs /\ xs.length<=i⟩
noncomputable def Itt (K:PySem.W.Frag) (a:Addr):It:=
 ⟨fun i H=>∃ xs x,SqT K H a xs /\ xs[i]?=some x,fun i H x H'=>H'=H /\ ∀ xs,SqT K H a xs->xs[i]?=some x,fun i H=>∃ xs,SqT K H a xs /\ xs.length<=i⟩
noncomputable def Itr (lo:Int) (n:Nat):It:=⟨fun i _=>i < n,fun i H x H'=>H'=H /\ x=.int (lo + i),fun i _=>n<=i⟩
theorem zh5 {P:Program} {w:World} {K:PySem.W.Frag} {tg:Expr} (a it:Addr):Turn P w K tg (Itl K a) [it] it (fun i h=>h.IsListIter it a i) where
 mem:=by simp
 obj:=fun i h st b hb=>by
  have e:b=it:=by simpa using hb
  subst e
  obtain ⟨o,e,c,d⟩:=st
  exact ⟨o,e,fun v z=>by rw [d] at z; cases z⟩
 keep:=fun i h h' st k=>st.at fun o e=>k it (by simp) o e
 item:=by
  intro X hP hw hK hc i pins s σ H E I hf st hg
  subst hP hw hK
  obtain ⟨xs,x,hq,hx⟩:=hg
  obtain ⟨its,rv,p,hz⟩:=I.list hq
  obtain ⟨u,hu,ru⟩:=rv.get hx
  obtain ⟨f0,f1,f2,f3,f4,f5⟩:=hf it (by simp)
  refine wpAny_pyNext_list_item st p.isList (x:=u) (by simpa using hu) fun h' st' sb=>?_
  have I1:Inv X pins σ H { s with heap:=h' }:=I.turned (t':=s.toks) (fun b o hb e=>(sb.2 b hb).trans e) f0 f1 f3 f4 f5
  obtain ⟨o,e,c,d⟩:=id st'
  exact ⟨u,rfl,zkO (s:={ s with heap:=h' }) e c d (by decide) ⟨x,H,I1,ru,⟨rfl,fun ys hy=>by rw [I.list_inj hy hq]; exact hx⟩,st',fun b hb=>(hf b hb).1⟩⟩
 done:=by
  intro X hP hw hK hc i pins s σ H E I hf st hg
  subst hP hw hK
  obtain ⟨xs,hq,hx⟩:=hg
  obtain ⟨its,rv,p,hz⟩:=I.list hq
  obtain ⟨f0,f1,f2,f3,f4,f5⟩:=hf it (by simp)
  have hl:=rv.length
  exact wpAny_pyNext_list_end (I.ok.hd hc) st p.isList (by simp; omega) fun h' eb=>⟨rfl,I.turned (t':=s.toks) (fun b o hb e=>eb b o hb e) f0 f1 f3 f4 f5⟩
 self:=fun _ _ _ _ _ st h=>wpAny_pyIter_listiter st h
theorem zhu {P:Program} {w:World} {K:PySem.W.Frag} {tg:Expr} (a it:Addr):Turn P w K tg (Itt K a) [it] it (fun i h=>h.IsTupleIter it a i) where
 mem:=by simp
 obj:=fun i h st b hb=>by
  have e:b=it:=by simpa using hb
  subst e
  obtain ⟨o,e,c,d⟩:=st
  exact ⟨o,e,fun v z=>by rw [d] at z; cases z⟩
 keep:=fun i h h' st k=>st.at fun o e=>k it (by simp) o e
 item:=by
  intro X hP hw hK hc i pins s σ H E I hf st hg
  subst hP hw hK
  obtain ⟨xs,x,hq,hx⟩:=hg
  obtain ⟨its,rv,p,hz⟩:=I.tuple hq
  obtain ⟨u,hu,ru⟩:=rv.get hx
  obtain ⟨f0,f1,f2,f3,f4,f5⟩:=hf it (by simp)
  refine wpAny_pyNext_tuple_item st (show s.heap.IsTuple a its.toArray from p) (x:=u) (by simpa using hu) fun h' st' sb=>?_
  have I1:Inv X pins σ H { s with heap:=h' }:=I.turned (t':=s.toks) (fun b o hb e=>(sb.2 b hb).trans e) f0 f1 f3 f4 f5
  obtain ⟨o,e,c,d⟩:=id st'
  exact ⟨u,rfl,zkO (s:={ s with heap:=h' }) e c d (by decide) ⟨x,H,I1,ru,⟨rfl,fun ys hy=>by rw [I.tuple_inj hy hq]; exact hx⟩,st',fun b hb=>(hf b hb).1⟩⟩
 done:=by
  intro X hP hw hK hc i pins s σ H E I hf st hg
  subst hP hw hK
  obtain ⟨xs,hq,hx⟩:=hg
  obtain ⟨its,rv,p,hz⟩:=I.tuple hq
  obtain ⟨f0,f1,f2,f3,f4,f5⟩:=hf it (by simp)
  have hl:=rv.length
  exact wpAny_pyNext_tuple_end (I.ok.hd hc) st (show s.heap.IsTuple a its.toArray from p) (by simp; omega) fun h' eb=>⟨rfl,I.turned (t':=s.toks) (fun b o hb e=>eb b o hb e) f0 f1 f3 f4 f5⟩
 self:=fun _ _ _ _ _ st h=>wpAny_pyIter_tupleiter st h
theorem zhf {P:Program} {w:World} {K:PySem.W.Frag} {tg:Expr} (it:Addr) (lo:Int) (n:Nat):Turn P w K tg (Itr lo n) [it] it (fun i h=>IsRangeIter h it (lo + (i:Nat) * 1) ((n:Int) - (i:Nat)) 1) where
 mem:=by simp
 obj:=fun i h st b hb=>by
  have e:b=it:=by simpa using hb
  subst e
  exact ⟨_,st,fun v z=>by
   have z':Data.fields _=Data.cell v:=z
   cases z'⟩
 keep:=fun i h h' st k=>k it (by simp) _ st
 item:=by
  intro X hP hw hK hc i pins s σ H E I hf st hg
  subst hP hw hK
  obtain ⟨f0,f1,f2,f3,f4,f5⟩:=hf it (by simp)
  have W:=Walks.range (prog:=X.prog) (w:=X.w) (I.ok.hd hc) it lo 1 n
  refine W.item i s _ _ hg st fun v h' tk hv st' kk=>?_
  obtain ⟨t,rfl⟩:=hv
  have I1:Inv X pins σ H { s with heap:=h',toks:=tk }:=I.turned (fun b o hb e=>kk b o (by simpa using hb) e) f0 f1 f3 f4 f5
  refine ⟨_,rfl,zkO (s:={ s with heap:=h',toks:=tk }) (n:="range_iterator") st' rfl rfl (by decide) ⟨.int (lo + i),H,I1,⟨t,?_⟩,⟨rfl,rfl⟩,st',fun b hb=>(hf b hb).1⟩⟩
  rw [Int.mul_one]
 done:=by
  intro X hP hw hK hc i pins s σ H E I hf st hg
  subst hP hw hK
  obtain ⟨f0,f1,f2,f3,f4,f5⟩:=hf it (by simp)
  exact wpAny_pyNext_range_end (I.ok.hd hc) st (by have:n<=i:=hg; omega) fun h' eb=>⟨rfl,I.turned (t':=s.toks) (fun b o hb e=>eb b o hb e) f0 f1 f3 f4 f5⟩
 self:=fun _ _ _ _ _ st h=>wpAny_pyIter_rangeiter st h
end L2
namespace L2
open PySem PySem.Spec PyProof.Rows
section
variable {X:Cx} {tg:Expr}
theorem zgC {pins:List (Addr×Obj)} {σ:St} {H:Hp} {s:Shared} {R:It->Hp->Prop} {E:Value->Shared->Prop} {lo hi:Int} {t u v:Tok} {tk:Nat} (I:Inv X pins σ H s) (h1: -(2 ^ 62)<=lo) (h2:lo < 2 ^ 62) (h3: -(2 ^ 62)<=hi) (h4:hi < 2 ^ 62)
  (q:R (Itr lo (hi - lo).toNat) H):wpAny (model X.prog X.w) X.A (pyIter (.ref s.heap.objs.size)) (PIE X pins σ tg R) E { s with heap:=s.heap.push { cls:=.type "range",data:=.fields #[.int lo t,.int hi u,.int 1 v] },toks:=tk }:=by
 refine wpAny_pyIter_range (IsRange.new ..) (small_one h1 h2 h3 h4) ?_
 have I1:Inv X pins σ H { s with heap:=s.heap.push { cls:=.type "range",data:=.fields #[.int lo t,.int hi u,.int 1 v] },toks:=tk }:=I.kept fun b o e=>Heap.get?_push_of_some _ e
 refine ⟨(s.heap.push { cls:=.type "range",data:=.fields #[.int lo t,.int hi u,.int 1 v] }).objs.size,[(s.heap.push { cls:=.type "range",data:=.fields #[.int lo t,.int hi u,.int 1 v] }).objs.size],_,_,H,rfl,
  I1.kept (t':=tk) fun b o e=>Heap.get?_push_of_some _ e,zhf _ lo (hi - lo).toNat,?_,fun b hb=>?_,q⟩
 ·have e1:lo + ((0:Nat):Int) * 1=lo:=by simp
  have e2:(((hi - lo).toNat:Nat):Int) - ((0:Nat):Int)=Builtin.Range.rangeSize lo hi 1:=by rw [rangeSize_one]; split <;> omega
  show IsRangeIter _ _ (lo + ((0:Nat):Int) * 1) ((((hi - lo).toNat:Nat):Int) - ((0:Nat):Int)) 1
  rw [e1,e2]
  exact Heap.get?_push_size _ rfl
 ·have e:b=(s.heap.push { cls:=.type "range",data:=.fields #[.int lo t,.int hi u,.int 1 v] }).objs.size:=by simpa using hb
  subst e
  exact I1.fpOk (Nat.le_refl _) (I1.hok.fresh (Nat.le_refl _))
noncomputable def iRng1 (ta:TA):TI:=fun σ H R=>ta σ H fun vs H1=>∃ j:Int,vs=[.int j] /\ -(2 ^ 62)<=j /\ j < 2 ^ 62 /\ R (Itr 0 j.toNat) H1
noncomputable def iRng2 (ta:TA):TI:=fun σ H R=>ta σ H fun vs H1=>∃ i j:Int,vs=[.int i,.int j] /\ (-(2 ^ 62)<=i /\ i < 2 ^ 62 /\ -(2 ^ 62)<=j /\ j < 2 ^ 62) /\ R (Itr i (j - i).toNat) H1
theorem zjc {a:Expr} {ta:TA} {p pos:Pos} (hg:Gl X "range") (hm:X.mg "range"=none) (ha:PA X [a] ta) (hs:starEach [a] X.env=[(false,eval a X.env)]:=by rfl):PI X tg (.Call (.Name "range" p) [a] [] pos) (iRng1 ta):=by
 intro pins s σ H R I h
 refine Call_ (zcT I hg hm boot_range (PyProof.Rows.callWith_type1 (thn (ha pos pins s σ H _ I h) fun us s1 ⟨vs,H1,I1,r1,q1⟩=>?_) hs rfl))
 obtain ⟨j,e,q1,q2,q⟩:=q1
 subst e
 cases r1 with
 | cons r rr=>
   cases rr
   obtain ⟨t,rfl⟩:=r
   exact call_range_1 (zgC I1 (by omega) (by omega) q1 q2 (by simpa using q))
theorem zjv {a b:Expr} {ta:TA} {p pos:Pos} (hg:Gl X "range") (hm:X.mg "range"=none) (ha:PA X [a,b] ta) (hs:starEach [a,b] X.env=[(false,eval a X.env),(false,eval b X.env)]:=by rfl) (hs2:starEach [b] X.env=[(false,eval b X.env)]:=by rfl):
  PI X tg (.Call (.Name "range" p) [a,b] [] pos) (iRng2 ta):=by
 intro pins s σ H R I h
 refine Call_ (zcT I hg hm boot_range (PyProof.Rows.callWith_type1 (thn (ha pos pins s σ H _ I h) fun us s1 ⟨vs,H1,I1,r1,q1⟩=>?_) (by rw [hs,hs2]) (by rw [hs2]; rfl)))
 obtain ⟨i,j,e,⟨q1,q2,q3,q4⟩,q⟩:=q1
 subst e
 cases r1 with
 | cons r rr=>
   cases rr with
   | cons r' rr=>
     cases rr
     obtain ⟨t,rfl⟩:=r
     obtain ⟨t',rfl⟩:=r'
     exact call_range_2 (zgC I1 q1 q2 q3 q4 q)
noncomputable def tFor (wi:TI) (g:TG) (tb:TS):TS:=fun D σ H=>wi σ H fun J H1=>∃ W:Nat->Nat->St->Hp->Prop,(∃ m,W 0 m σ H1) /\ ∀ i m σ H,W i m σ H->
 (J.stop i H /\ D.nx σ H) \/ (J.go i H /\ ∃ N:St->Hp->Prop,(∀ σ' H',N σ' H'->∃ m',m' < m /\ W (i + 1) m' σ' H') /\ ∀ x H',J.yld i H x H'->g x σ H' fun σ2 H2=>tb { D with nx:=N,ct:=N,bk:=D.nx } σ2 H2)
noncomputable def pinsAt (fp:List Addr) (h:Heap):List (Addr×Obj):=fp.filterMap fun b=>(h.get? b).map fun o=>(b,o)
theorem za6 {fp:List Addr} {h:Heap} {b:Addr} {o:Obj} (hb:b∈fp) (e:h.get? b=some o):(b,o)∈pinsAt fp h:=List.mem_filterMap.mpr ⟨b,hb,by rw [e]; rfl⟩
theorem zfP {fp:List Addr} {h:Heap} {p:Addr×Obj} (hp:p∈pinsAt fp h):p.1∈fp /\ h.get? p.1=some p.2:=by
 obtain ⟨b,hb,e⟩:=List.mem_filterMap.mp hp
 cases q:h.get? b with
 | none=>rw [q] at e; cases e
 | some o=>
   rw [q] at e
   have e':(b,o)=p:=Option.some.inj e
   subst e'
   exact ⟨hb,q⟩
theorem Inv.pinned {pins:List (Addr×Obj)} {σ:St} {H:Hp} {s:Shared} {fp:List Addr} (I:Inv X pins σ H s) (hf:∀ b∈fp,FpOk X pins H b) (ho:∀ b∈fp,∃ o,s.heap.get? b=some o /\ ∀ v,o.data≠.cell v):Inv X (pins ++ pinsAt fp s.heap) σ H s:=
 I.pins_of fun p hp=>(List.mem_append.mp hp).elim (fun z=>I.pin p (List.mem_append_right _ z)) fun z=>by
  obtain ⟨hb,e⟩:=zfP z
  obtain ⟨f0,f1,f2,_⟩:=hf p.1 hb
  obtain ⟨o,e',d⟩:=ho p.1 hb
  rw [e] at e'; cases e'
  exact ⟨e,f0,f1,f2,d⟩
theorem Inv.unpinned {pins pl:List (Addr×Obj)} {σ:St} {H:Hp} {s:Shared} (I:Inv X (pins ++ pl) σ H s):Inv X pins σ H s:=I.pins_of fun p hp=>I.pin p (List.mem_append_right _ (List.mem_append_left _ hp))
theorem znw {iter:Expr} {body:List Stmt} {wi:TI} {g:TG} {tb:TS} {pos:Pos} (hp:PassesOwn (model X.prog X.w) X.A X.env X.xe) (hc:X.calm=true) (hi:PI X tg iter wi) (hg:PG X tg g) (hb:PSs X body tb)
  (hs:∀ x,foldedSetIterable iter X.env x=pure x:=by intro _; rfl):PS X (.For tg iter body [] pos) (tFor wi g tb):=by
 intro pins s σ H D I h
 refine wpAny_For (thn (hi pins s σ H _ I h) fun v s1 h1=>thn h1 fun itv s2 h2=>?_) hs
 obtain ⟨it,fp,tn,J,H2,e,I2,T,st2,f2,W,⟨m0,w0⟩,turn⟩:=h2
 subst e
 have stat:∀ {H':Hp},(∀ b∈fp,H' b=none)->∀ b∈fp,FpOk X pins H' b:=fun hn b hb=>⟨hn b hb,(f2 b hb).2⟩
 refine codeAny_forLoop_any (fun n s'=>∃ i σ' H',Inv X pins σ' H' s' /\ tn i s'.heap /\ (∀ b∈fp,H' b=none) /\ W i n σ' H') ?_ m0 ⟨0,σ,H2,I2,st2,fun b hb=>(f2 b hb).1,w0⟩
 rintro n s3 ⟨i,σ3,H3,I3,st3,fr3,w3⟩
 rcases turn i n σ3 H3 w3 with ⟨stop,qn⟩ | ⟨go,N,hN,step⟩
 ·refine wpAny_passesOwn hp (thn (T.done X rfl rfl rfl hc i pins s3 σ3 H3 X.xe I3 (stat fr3) st3 stop) fun r s4 ⟨hr,I4⟩=>?_)
  subst hr
  exact wpAny_execs_nil ⟨σ3,H3,I4,qn⟩
 ·refine wpAny_passesOwn hp (thn (T.item X rfl rfl rfl hc i pins s3 σ3 H3 X.xe I3 (stat fr3) st3 go) fun r s4 ⟨u,hr,h4⟩=>?_)
  subst hr
  refine wpAny_passesOwn hp (thn h4 fun _ s5 ⟨x,H5,I5,r5,y5,st5,fr5⟩=>?_)
  have I5':=I5.pinned (stat fr5) (T.obj _ _ st5)
  refine wpAny_passesOwn hp (thn (hg _ s5 σ3 H5 x u _ I5' r5 (step x H5 y5)) fun _ s6 ⟨σ6,H6,I6,q6⟩=>?_)
  refine wpAny_passesOwn hp (thn (hb _ s6 σ6 H6 _ I6 q6) fun f s7 q7=>?_)
  have again:∀ {σ7:St} {H7:Hp},Inv X (pins ++ pinsAt fp s5.heap) σ7 H7 s7->N σ7 H7->∃ m,m < n /\ ∃ i σ' H',Inv X pins σ' H' s7 /\ tn i s7.heap /\ (∀ b∈fp,H' b=none) /\ W i m σ' H':=fun {σ7 H7} I7 n7=>by
   obtain ⟨m',hm,w7⟩:=hN σ7 H7 n7
   refine ⟨m',hm,i + 1,σ7,H7,I7.unpinned,T.keep _ _ _ st5 fun b hb o e=>(I7.pin (b,o) (List.mem_append_right _ (List.mem_append_right _ (za6 hb e)))).1,fun b hb=>?_,w7⟩
   obtain ⟨o,e,d⟩:=T.obj _ _ st5 b hb
   exact (I7.pin (b,o) (List.mem_append_right _ (List.mem_append_right _ (za6 hb e)))).2.1
  cases f with
  | next=>obtain ⟨σ7,H7,I7,n7⟩:=q7; exact again I7 n7
  | cont=>obtain ⟨σ7,H7,I7,n7⟩:=q7; exact again I7 n7
  | brk=>obtain ⟨σ7,H7,I7,q7⟩:=q7; exact ⟨σ7,H7,I7.unpinned,q7⟩
  | ret v=>obtain ⟨x7,σ7,H7,I7,r7,q7⟩:=q7; exact ⟨x7,σ7,H7,I7.unpinned,r7,q7⟩
end
end L2
namespace L2
open PySem PySem.Spec PyProof.Rows
noncomputable abbrev R2:=V->V->Hp->VK->Prop
noncomputable def OpR (X:Cx) (f:Value->Value->Sem Value) (r:R2):Prop:=
 ∀ (pins:List (Addr×Obj)) (s:Shared) (σ:St) (H:Hp) (x y:V) (v u:Value) (Q:VK),Inv X pins σ H s->RelV x v->RelV y u->r x y H Q->
   wpAny (model X.prog X.w) X.A (f v u) (EP X pins σ Q) X.xe s
noncomputable def UnR (X:Cx) (f:Value->Sem Value) (r:V->Hp->VK->Prop):Prop:=
 ∀ (pins:List (Addr×Obj)) (s:Shared) (σ:St) (H:Hp) (x:V) (v:Value) (Q:VK),Inv X pins σ H s->RelV x v->r x H Q->
   wpAny (model X.prog X.w) X.A (f v) (EP X pins σ Q) X.xe s
noncomputable def CallR (X:Cx) (f:Value) (r:List V->Hp->VK->Prop):Prop:=
 ∀ (pins:List (Addr×Obj)) (s:Shared) (σ:St) (H:Hp) (xs:List V) (us:List Value) (Q:VK),Inv X pins σ H s->Vals xs us->r xs H Q->
   wpAny (model X.prog X.w) X.A (call f us) (EP X pins σ Q) X.xe s
noncomputable def TruR (X:Cx) (r:V->Hp->(Bool->Hp->Prop)->Prop):Prop:=
 ∀ (pins:List (Addr×Obj)) (s:Shared) (σ:St) (H:Hp) (x:V) (v:Value) (Q:Bool->Hp->Prop),Inv X pins σ H s->RelV x v->r x H Q->
   wpAny (model X.prog X.w) X.A (truthy v) (TP X pins σ Q) X.xe s
noncomputable def tOp (r:R2) (ta tb:TE):TE:=fun σ H Q=>ta σ H fun x H1=>tb σ H1 fun y H2=>r x y H2 Q
noncomputable def tUn (r:V->Hp->VK->Prop) (ta:TE):TE:=fun σ H Q=>ta σ H fun x H1=>r x H1 Q
noncomputable def rI (C:Int->Int->Prop) (g:Int->Int->V):R2:=fun x y H Q=>∃ i j,x=.int i /\ y=.int j /\ C i j /\ Q (g i j) H
noncomputable def rI0 (g:Int->Int->V):R2:=fun x y H Q=>∃ i j,x=.int i /\ y=.int j /\ Q (g i j) H
noncomputable def rU (g:Int->V):V->Hp->VK->Prop:=fun x H Q=>∃ i,x=.int i /\ Q (g i) H
section
variable {X:Cx} {a b c:Expr} {ta tb tc:TE} {pos:Pos}
theorem binT (ha:PE X a ta) (hb:PE X b tb) {pins:List (Addr×Obj)} {s:Shared} {σ:St} {H:Hp} {R:V->V->Hp->Prop} (I:Inv X pins σ H s)
  (h:ta σ H fun x H1=>tb σ H1 fun y H2=>R x y H2) {Q:Value->Shared->Prop} {f:Value->Value->Sem Value}
  (hf:∀ v u s2 x y H2,Inv X pins σ H2 s2->RelV x v->RelV y u->R x y H2->wpAny (model X.prog X.w) X.A (f v u) Q X.xe s2):
  wpAny (model X.prog X.w) X.A (eval a X.env) (fun v s₁=>wpAny (model X.prog X.w) X.A (eval b X.env) (fun u s₂=>wpAny (model X.prog X.w) X.A (f v u) Q X.xe s₂) X.xe s₁) X.xe s:=by
 refine thn (ha pins s σ H _ I h) fun v s1 ⟨x,H1,I1,r1,q1⟩=>?_
 refine thn (hb pins s1 σ H1 _ I1 q1) fun u s2 ⟨y,H2,I2,r2,q2⟩=>?_
 exact hf v u s2 x y H2 I2 r1 r2 q2
theorem zoc {op:Operator} {r:R2} (ho:OpR X (binaryOp op) r) (ha:PE X a ta) (hb:PE X b tb):PE X (.BinOp a op b pos) (tOp r ta tb):=by
 intro pins s σ H Q I h
 exact wpAny_BinOp (binT ha hb I h fun v u s2 x y H2 I2 rx ry q=>ho pins s2 σ H2 x y v u Q I2 rx ry q)
theorem zoi {op:UnaryOp} {r:V->Hp->VK->Prop} (ho:UnR X (unaryOp op) r) (ha:PE X a ta):PE X (.UnaryOp op a pos) (tUn r ta):=by
 intro pins s σ H Q I h
 exact UnaryOp_ (thn (ha pins s σ H _ I h) fun v s1 ⟨x,H1,I1,r1,q1⟩=>ho pins s1 σ H1 x v Q I1 r1 q1)
theorem opI {f:Value->Value->Sem Value} {C:Int->Int->Prop} {g:Int->Int->Int}
  (rule:∀ (i j:Int) (t u:Tok) (s:Shared) (Q:Value->Shared->Prop) (E:Value->Shared->Prop),C i j->Q (.int (g i j) s.toks) { s with toks:=s.toks + 1 }->wpAny (model X.prog X.w) X.A (f (.int i t) (.int j u)) Q E s):
  OpR X f (rI C fun i j=>.int (g i j)):=by
 intro pins s σ H x y v u Q I rx ry h
 obtain ⟨i,j,rfl,rfl,hc,q⟩:=h
 obtain ⟨t,rfl⟩:=rx
 obtain ⟨t',rfl⟩:=ry
 exact rule i j t t' s _ _ hc ⟨.int (g i j),H,I.tok _,⟨_,rfl⟩,q⟩
theorem opI0 {f:Value->Value->Sem Value} {g:Int->Int->Int}
  (rule:∀ (i j:Int) (t u:Tok) (s:Shared) (Q:Value->Shared->Prop) (E:Value->Shared->Prop),Q (.int (g i j) s.toks) { s with toks:=s.toks + 1 }->wpAny (model X.prog X.w) X.A (f (.int i t) (.int j u)) Q E s):
  OpR X f (rI0 fun i j=>.int (g i j)):=by
 intro pins s σ H x y v u Q I rx ry h
 obtain ⟨i,j,rfl,rfl,q⟩:=h
 obtain ⟨t,rfl⟩:=rx
 obtain ⟨t',rfl⟩:=ry
 exact rule i j t t' s _ _ ⟨.int (g i j),H,I.tok _,⟨_,rfl⟩,q⟩
theorem opB0 {f:Value->Value->Sem Value} {g:Int->Int->Bool}
  (rule:∀ (i j:Int) (t u:Tok) (s:Shared) (Q:Value->Shared->Prop) (E:Value->Shared->Prop),Q (.bool (g i j)) s->wpAny (model X.prog X.w) X.A (f (.int i t) (.int j u)) Q E s):
  OpR X f (rI0 fun i j=>.bl (g i j)):=by
 intro pins s σ H x y v u Q I rx ry h
 obtain ⟨i,j,rfl,rfl,q⟩:=h
 obtain ⟨t,rfl⟩:=rx
 obtain ⟨t',rfl⟩:=ry
 exact rule i j t t' s _ _ ⟨.bl (g i j),H,I,rfl,q⟩
noncomputable def CPow (i j:Int):Prop:=0<=j /\ j<=1000000 /\ i.natAbs < 2 ^ 64
theorem zhk (k:Nat):(0:Int)<=2 ^ k:=by
 rw [two_pow_cast]
 exact Int.natCast_nonneg _
theorem znl:OpR X (binaryOp .Add) (rI0 fun i j=>.int (i + j)):=opI0 fun _ _ _ _ _ _ _ q=>add_int q
theorem zcM:OpR X (binaryOp .Sub) (rI0 fun i j=>.int (i - j)):=opI0 fun _ _ _ _ _ _ _ q=>sub_int q
theorem zaE:OpR X (binaryOp .Mod) (rI (fun _ j=>j≠0) fun i j=>.int (i.fmod j)):=opI fun _ _ _ _ _ _ _ hc q=>mod_int' hc q
theorem zg8:OpR X (binaryOp .Pow) (rI CPow fun i j=>.int (i ^ j.toNat)):=opI fun _ _ _ _ _ _ _ hc q=>pow_int_small hc.1 hc.2.1 hc.2.2 q
theorem zh9:OpR X (binaryOp .RShift) (rI (fun _ j=>0<=j) fun i j=>.int (i / 2 ^ j.toNat)):=opI fun i j _ _ _ _ _ hc q=>
 rshift_int hc (by rw [Int.fdiv_eq_ediv_of_nonneg i (zhk _)]; exact q)
theorem unI {f:Value->Sem Value} {g:Int->Int}
  (rule:∀ (i:Int) (t:Tok) (s:Shared) (Q:Value->Shared->Prop) (E:Value->Shared->Prop),Q (.int (g i) s.toks) { s with toks:=s.toks + 1 }->wpAny (model X.prog X.w) X.A (f (.int i t)) Q E s):
  UnR X f (rU fun i=>.int (g i)):=by
 intro pins s σ H x v Q I rx h
 obtain ⟨i,rfl,q⟩:=h
 obtain ⟨t,rfl⟩:=rx
 exact rule i t s _ _ ⟨.int (g i),H,I.tok _,⟨_,rfl⟩,q⟩
theorem zoe:UnR X (unaryOp .USub) (rU fun i=>.int (-i)):=unI fun _ _ _ _ _ q=>neg_int q
end
section
variable {X:Cx} {a b c:Expr} {ta tb tc:TE} {pos:Pos}
theorem znK {pins:List (Addr×Obj)} {σ:St} {H:Hp} {s:Shared} {Q:VK} {k k':Bool} (I:Inv X pins σ H s) (q:Q (.bl k) H) (e:k=k'):EP X pins σ Q (.bool k') s:=by
 subst e
 exact ⟨.bl k,H,I,rfl,q⟩
theorem zfs:OpR X (compareOp .Lt) (rI0 fun i j=>.bl (decide (i < j))):=opB0 fun _ _ _ _ _ _ _ q=>lt_int q
theorem zdO:OpR X (compareOp .LtE) (rI0 fun i j=>.bl (decide (i<=j))):=opB0 fun _ _ _ _ _ _ _ q=>le_int q
theorem zjw:OpR X (compareOp .Gt) (rI0 fun i j=>.bl (decide (j < i))):=opB0 fun _ _ _ _ _ _ _ q=>gt_int q
theorem zmV:OpR X (compareOp .GtE) (rI0 fun i j=>.bl (decide (j<=i))):=opB0 fun _ _ _ _ _ _ _ q=>ge_int q
theorem znP:OpR X (compareOp .Is) (fun x y H Q=>y=.non /\ Q (.bl (decide (x=.non))) H):=by
 intro pins s σ H x y v u Q I rx ry h
 obtain ⟨rfl,q⟩:=h
 cases ry
 refine is_none_gen (znK I q ?_)
 cases x <;> first
  | (cases rx; rfl)
  | (obtain ⟨t,rfl⟩:=rx; rfl)
theorem OpR.or {f:Value->Value->Sem Value} {r r':R2} (h:OpR X f r) (h':OpR X f r'):OpR X f (fun x y H Q=>r x y H Q \/ r' x y H Q):=by
 intro pins s σ H x y v u Q I rx ry q
 rcases q with q | q
 ·exact h pins s σ H x y v u Q I rx ry q
 ·exact h' pins s σ H x y v u Q I rx ry q
theorem nomark (b:Expr) {op:CmpOp} (h:op≠.In:=by decide) (h2:op≠.NotIn:=by decide):behindInMarks op b=false:=by
 have e1:(op == CmpOp.In)=false:=by cases op <;> first | rfl | exact absurd rfl h
 have e2:(op == CmpOp.NotIn)=false:=by cases op <;> first | rfl | exact absurd rfl h2
 cases b <;> simp [behindInMarks,e1,e2]
theorem zlq {op:CmpOp} {r:R2} (ho:OpR X (compareOp op) r) (ha:PE X a ta) (hb:PE X b tb) (hm:behindInMarks op b=false):PE X (.Compare a [op] [b] pos) (tOp r ta tb):=by
 intro pins s σ H Q I h
 exact wpAny_Compare1 (binT ha hb I h fun v u s2 x y H2 I2 rx ry q=>ho pins s2 σ H2 x y v u Q I2 rx ry q) hm
noncomputable def tTest (t:TE):TT:=fun σ H Q=>t σ H fun x H'=>∃ k,x=.bl k /\ Q k H'
theorem zlt {op:CmpOp} {r:R2} (ho:OpR X (compareOp op) r) (ha:PE X a ta) (hb:PE X b tb) (hm:behindInMarks op b=false):PT X (.Compare a [op] [b] pos) (tTest (tOp r ta tb)):=by
 intro pins s σ H Q I h
 refine wpAny_isTrue_Compare1 (thn (ha pins s σ H _ I h) fun v s1 ⟨x,H1,I1,r1,q1⟩=>thn (hb pins s1 σ H1 _ I1 q1) fun u s2 ⟨y,H2,I2,r2,q2⟩=>
  thn (ho pins s2 σ H2 x y v u _ I2 r1 r2 q2) fun c s3 ⟨z,H3,I3,r3,k,e,q3⟩=>?_) hm
 subst e
 cases r3
 exact wpAny_truthy_bool ⟨H3,I3,q3⟩
noncomputable def tChain (r r':R2) (ta tb tc:TE):TE:=fun σ H Q=>ta σ H fun x H1=>tb σ H1 fun y H2=>r x y H2 fun z H3=>∃ k,z=.bl k /\
 (if k=true then tc σ H3 fun w' H4=>r' y w' H4 Q else Q (.bl false) H3)
theorem zkH {op op':CmpOp} {r r':R2} (ho:OpR X (compareOp op) r) (ho':OpR X (compareOp op') r') (ha:PE X a ta) (hb:PE X b tb) (hc:PE X c tc)
  (hm:lastMarks [op,op'] [b,c]=false:=by with_unfolding_all rfl):PE X (.Compare a [op,op'] [b,c] pos) (tChain r r' ta tb tc):=by
 intro pins s σ H Q I h
 refine Compare_chain (thn (ha pins s σ H _ I h) fun v s1 ⟨x,H1,I1,r1,q1⟩=>chain_link (thn (hb pins s1 σ H1 _ I1 q1) fun u s2 ⟨y,H2,I2,r2,q2⟩=>
  thn (ho pins s2 σ H2 x y v u _ I2 r1 r2 q2) fun d s3 ⟨z,H3,I3,r3,k,e,q3⟩=>?_)) hm
 subst e
 cases r3
 refine wpAny_truthy_bool ?_
 cases k with
 | false=>exact ite_ff ⟨.bl false,H3,I3,rfl,q3⟩
 | true=>exact ite_tt (chain_last (thn (hc pins s3 σ H3 _ I3 q3) fun w' s4 ⟨z',H4,I4,r4,q4⟩=>ho' pins s4 σ H4 y z' u w' Q I4 r2 r4 q4))
theorem zjT {op op':CmpOp} {r r':R2} (ho:OpR X (compareOp op) r) (ho':OpR X (compareOp op') r') (ha:PE X a ta) (hb:PE X b tb) (hc:PE X c tc)
  (hm:lastMarks [op,op'] [b,c]=false:=by with_unfolding_all rfl):PT X (.Compare a [op,op'] [b,c] pos) (tTest (tChain r r' ta tb tc)):=by
 intro pins s σ H Q I h
 refine isTrue_chain (thn (ha pins s σ H _ I h) fun v s1 ⟨x,H1,I1,r1,q1⟩=>test_link (thn (hb pins s1 σ H1 _ I1 q1) fun u s2 ⟨y,H2,I2,r2,q2⟩=>
  thn (ho pins s2 σ H2 x y v u _ I2 r1 r2 q2) fun d s3 ⟨z,H3,I3,r3,k,e,q3⟩=>?_)) hm
 subst e
 cases r3
 refine wpAny_truthy_bool ?_
 cases k with
 | false=>
   obtain ⟨k',e',q'⟩:=q3
   cases e'
   exact ite_ff ⟨H3,I3,q'⟩
 | true=>
   refine ite_tt (test_last (thn (hc pins s3 σ H3 _ I3 q3) fun w' s4 ⟨z',H4,I4,r4,q4⟩=>thn (ho' pins s4 σ H4 y z' u w' _ I4 r2 r4 q4) fun d' s5 ⟨z2,H5,I5,r5,k2,e2,q5⟩=>?_))
   subst e2
   cases r5
   exact wpAny_truthy_bool ⟨H5,I5,q5⟩
noncomputable def TruV (K:PySem.W.Frag) (x:V) (H:Hp) (k:Bool):Prop:=
 match x with
 | .non=>k=false
 | .bl b=>k=b
 | .int i=>k=(i != 0)
 | .str y=>y.length<=sizeLine /\ k=((y.length:Int) != 0)
 | .byt y=>y.size<=sizeLine /\ k=((y.size:Int) != 0)
 | .ref p=>(∃ xs,SqL K H p xs /\ k= !xs.isEmpty) \/ (∃ xs,SqT K H p xs /\ k= !xs.isEmpty) \/ ∃ kvs,H p=some (.dK kvs) /\ k= !kvs.isEmpty
 | _=>False
theorem zhC {κ:Type} {kvs:List (κ×V)} {vs:List (κ×Value)} (r:KV kvs vs):(!vs.isEmpty)= !kvs.isEmpty:=by
 cases r <;> rfl
theorem zdT {xs:List V} {its:List Value} (r:Vals xs its):(!its.toArray.isEmpty)= !xs.isEmpty:=by
 cases r <;> simp
theorem line63:(sizeLine:Nat) < 2 ^ 63:=by rw [sizeLine_eq]; decide
theorem zn1:TruR X (fun x H Q=>∃ k,TruV X.K x H k /\ Q k H):=by
 intro pins s σ H x v Q I rx h
 obtain ⟨k,e,q⟩:=h
 have hl:=line63
 have hs:sizeLine=16777216:=sizeLine_eq
 cases x with
 | non=>
   cases rx
   have e':k=false:=e
   subst e'
   exact truthy_none ⟨H,I,q⟩
 | bl b=>
   cases rx
   have e':k=b:=e
   subst e'
   exact wpAny_truthy_bool ⟨H,I,q⟩
 | int i=>
   obtain ⟨t,rfl⟩:=rx
   have e':k=(i != 0):=e
   subst e'
   exact PySem.P.truthy_int ⟨H,I,q⟩
 | str y=>
   obtain ⟨t,rfl⟩:=rx
   obtain ⟨hy,e'⟩:y.length<=sizeLine /\ k=((y.length:Int) != 0):=e
   subst e'
   exact PySem.P.truthy_str (by omega) ⟨H,I.tok _,q⟩
 | byt y=>
   obtain ⟨t,rfl⟩:=rx
   obtain ⟨hy,e'⟩:y.size<=sizeLine /\ k=((y.size:Int) != 0):=e
   subst e'
   exact PySem.W.truthy_bytes (by omega) ⟨H,I.tok _,q⟩
 | ref p=>
   cases rx
   have e':(∃ xs,SqL X.K H p xs /\ k= !xs.isEmpty) \/ (∃ xs,SqT X.K H p xs /\ k= !xs.isEmpty) \/ ∃ kvs,H p=some (.dK kvs) /\ k= !kvs.isEmpty:=e
   rcases e' with ⟨xs,hx,e'⟩ | ⟨xs,hx,e'⟩ | ⟨kvs,hx,e'⟩
   ·subst e'
    obtain ⟨its,r,pl,hz⟩:=I.list hx
    have hlen:=r.length
    exact wpAny_truthy_list pl.isList (by simp only [List.size_toArray]; omega) ⟨H,I.tok _,by rw [zdT r]; exact q⟩
   ·subst e'
    obtain ⟨its,r,pl,hz⟩:=I.tuple hx
    have hlen:=r.length
    exact truthy_tuple pl (by simp only [List.size_toArray]; omega) ⟨H,I.tok _,by rw [zdT r]; exact q⟩
   ·subst e'
    obtain ⟨hz,hS,vs,r,m⟩:kvs.length<=sizeLine /\ (p == sysModules)=false /\ ∃ vs,KV kvs vs /\ s.heap.DictOf (mixKind X.prog X.w) p vs:=I.hok p _ hx
    have hlen:kvs.length=vs.length:=Paired.length r
    exact wpAny_truthy_dict hS m (by omega) ⟨H,I.tok _,by rw [zhC r]; exact q⟩
 | _=>exact (show False from e).elim
theorem zkz (ha:PE X a ta) (he:∀ whole,isTrue a X.env whole=(do let v <- whole; standAt a.pos; holding [v] (truthy v))):
  PT X a (fun σ H Q=>ta σ H fun x H'=>∃ k,TruV X.K x H' k /\ Q k H'):=by
 intro pins s σ H Q I h
 exact isTrue_plain (thn (ha pins s σ H _ I h) fun v s1 ⟨x,H1,I1,r1,q1⟩=>zn1 pins s1 σ H1 x v Q I1 r1 q1) (he _)
theorem zhg:OpR X (binaryOp .Add) (fun x y H Q=>∃ i j,x=.str i /\ y=.str j /\ i.length + j.length<=sizeLine /\ Q (.str (i ++ j)) H):=by
 intro pins s σ H x y v u Q I rx ry h
 obtain ⟨i,j,rfl,rfl,hz,q⟩:=h
 obtain ⟨t,rfl⟩:=rx
 obtain ⟨t',rfl⟩:=ry
 exact add_str (fun t' tk=>⟨.str (i ++ j),H,I.tok _,⟨_,rfl⟩,q⟩) hz
theorem vals1 {x:V} {us:List Value} (r:Vals [x] us):∃ u,us=[u] /\ RelV x u:=by
 cases r with
 | cons r1 r2=>cases r2; exact ⟨_,rfl,r1⟩
theorem zce:CallR X (.builtin "abs") (fun xs H Q=>∃ i,xs=[.int i] /\ Q (.int (if i < 0 then -i else i)) H):=by
 intro pins s σ H xs us Q I r h
 obtain ⟨i,rfl,q⟩:=h
 obtain ⟨u,rfl,t,rfl⟩:=vals1 r
 exact call_abs_int fun u tk=>⟨.int (if i < 0 then -i else i),H,I.tok _,⟨_,rfl⟩,q⟩
theorem zh2:CallR X (.type "int") (fun xs H Q=>(∃ i,xs=[.int i] /\ Q (.int i) H) \/ ∃ k,xs=[.bl k] /\ Q (.int (if k then 1 else 0)) H):=by
 intro pins s σ H xs us Q I r h
 rcases h with ⟨i,rfl,q⟩ | ⟨k,rfl,q⟩
 ·obtain ⟨u,rfl,t,rfl⟩:=vals1 r
  exact call_int_int ⟨.int i,H,I,⟨_,rfl⟩,q⟩
 ·obtain ⟨u,rfl,r1⟩:=vals1 r
  cases r1
  exact call_int_bool ⟨.int (if k then 1 else 0),H,I.tok _,⟨_,rfl⟩,q⟩
end
end L2
namespace L2
open PySem PySem.Spec PyProof.Rows
structure ObjM (h:Heap) (x dx C:Addr) (mA:Str->Option Value):Prop where
 obj:h.get? x=some (PySem.W.instObj C dx)
 ns:h.Ns1 dx mA
 ne:dx≠x
set_option tactic.hygienic true in
theorem zih {h:Heap} {dx:Addr} {mA:Str->Option Value} (n:h.Ns1 dx mA):∃ od,h.get? dx=some od /\ ∀ name,PySem.W.lookIn name od=some (mA name):=by
 obtain ⟨o,es,ep,ho,hd,hk,_,hm⟩:=n
 refine ⟨o,ho,fun name=>?_⟩
 have e:=hm name
 unfold nsFind findBy at e
 rw [<- Array.find?_toList] at e
 unfold PySem.W.lookIn
 rw [hd]
 dsimp only
 split
 ·rename_i y q
  rw [q] at e
  exact congrArg some e
 ·rename_i q
  rw [q] at e
  have a:es.toList.any (·.refKey)=false:=by
   rw [List.any_eq_false]
   intro y hy
   obtain ⟨z,t,hkey⟩:=hk y (Array.mem_toList_iff.mp hy)
   simp [DictEntry.refKey,hkey]
  have a':¬ es.toList.any (·.refKey)=true:=by rw [a]; exact Bool.false_ne_true
  rw [if_neg a']
  exact congrArg some e
theorem ObjM.look {h:Heap} {x dx C:Addr} {mA:Str->Option Value} (I:ObjM h x dx C mA):∃ od,PySem.W.InstAt h x (PySem.W.instObj C dx) C (some od) /\ ∀ name,PySem.W.lookIn name od=some (mA name):=
 let ⟨od,ho,hl⟩:=zih I.ns
 ⟨od,⟨I.obj,rfl,rfl,ho⟩,hl⟩
section
variable {prog:Program} {w:World} {A:Around} {E:Value->Shared->Prop} {s:Shared} {K:PySem.W.Frag} {x dx C f:Addr} {mA:Str->Option Value} {name:Str} {v:Value}
end
theorem RelO.some_of {v:V} {o:Option Value} (r:RelO (some v) o):∃ u,o=some u /\ RelV v u:=by
 cases o with
 | none=>exact (show False from r).elim
 | some u=>exact ⟨u,rfl,r⟩
section
variable {P:Program} {w:World} {H H':Hp} {h h':Heap} {a C dx:Addr} {fs fs':List (Str×V)}
theorem zmI (hok:HOk P w H h) (e:H a=some (.ins C dx fs)):∃ mA,ObjM h a dx C mA /\ (∀ f,RelO (fs.lookup f) (mA f)) /\ PySem.Within mA (fs.map (·.1)) /\ fs.length<=1000 /\ H dx=some (.own a):=by
 obtain ⟨d,z,ne,ob,mA,n,r,q⟩:=(show ObjOk P w H h a (.ins C dx fs) from hok a _ e)
 exact ⟨mA,⟨ob,n,ne⟩,r,q,z,d⟩
end
structure Cls (K:PySem.W.Frag) (C:Addr):Prop where
 pg:PySem.W.plainGet K C Str.empty=true
 hd:PySem.W.hasDictIn K C=true
 po:PySem.W.plainOver K C=true
 sa:PySem.W.findIn K (.ref C) "__setattr__"=some (some (.builtin "object.__setattr__"))
theorem Cls.get {K:PySem.W.Frag} {C:Addr} (c:Cls K C) (f:Str):PySem.W.plainGet K C f=true:=c.pg
section
variable {X:Cx} {pins:List (Addr×Obj)} {σ:St} {H:Hp} {s:Shared} {a C dx:Addr} {fs:List (Str×V)} {f:Str} {v:V} {A:Around} {E:Value->Shared->Prop}
end
section
variable {X:Cx} {o e value:Expr} {f:Str} {pos pos' tpos:Pos} {ta tv:TE}
end
section
variable {X:Cx} {pins:List (Addr×Obj)} {σ:St} {H:Hp} {s:Shared} {A:Around} {E:Value->Shared->Prop} {Q:Value->Shared->Prop} {c:Value} {b:Bool}
inductive TyOf (K:PySem.W.Frag) (H:Hp):V->Value->Prop where
 | non:TyOf K H .non (.type "NoneType")
 | bl (x:Bool):TyOf K H (.bl x) (.type "bool")
 | int (i:Int):TyOf K H (.int i) (.type "int")
 | str (x:Str):TyOf K H (.str x) (.type "str")
 | flt (x:UInt64):TyOf K H (.flt x) (.type "float")
 | lst {a:Addr} {xs:List V} (e:H a=some (.lst xs)):TyOf K H (.ref a) (.type "list")
 | frz {a:Addr} {o:Obj} {xs:List V} (e:H a=some (.frz o (.lst xs))):TyOf K H (.ref a) (.type "list")
 | tup {a:Addr} {xs:List V} (e:H a=some (.tup xs)):TyOf K H (.ref a) (.type "tuple")
 | dK {a:Addr} {kvs:List (Key×V)} (e:H a=some (.dK kvs)):TyOf K H (.ref a) (.type "dict")
 | dT {a:Addr} {kvs:List (List Key×V)} (e:H a=some (.dT kvs)):TyOf K H (.ref a) (.type "dict")
 | ins {a C dx:Addr} {fs:List (Str×V)} (e:H a=some (.ins C dx fs)) (cl:Cls K C) (ha:PySem.W.findIn K (.ref C) "__class__"=some (some (.builtin "object.__class__")))
   (hn:PySem.W.specialIn K (.builtin "object.__class__") "__get__"=some (some (.builtin "getset_descriptor.__get__"))) (htk:PySem.W.takesIn K (.builtin "object.__class__")=some true)
   (hm:PySem.W.mroIn K C (.type "object")=some true):TyOf K H (.ref a) (.ref C)
theorem zi5 {x:V} {u t:Value} (I:Inv X pins σ H s) (rx:RelV x u) (ty:TyOf X.K H x t) (e:PySem.W.kitOne X.K t c=some b) (h:∀ tk,Q (.bool b) { s with toks:=tk }):
  wpAny (model X.prog X.w) A (call (.builtin "isinstance") [u,c]) Q E s:=by
 cases ty with
 | non=>cases (show u=Value.none from rx); exact PySem.W.kia_one PySem.W.kitx_none I.kIn True.intro e (fun z=>nomatch z) h
 | bl y=>cases (show u=Value.bool y from rx); exact PySem.W.kia_one PySem.W.kitx_bool I.kIn True.intro e (fun z=>nomatch z) h
 | int i=>obtain ⟨t,q⟩:=(show ∃ t,u=Value.int i t from rx); cases q; exact PySem.W.kia_one PySem.W.kitx_int I.kIn True.intro e (fun z=>nomatch z) h
 | str y=>obtain ⟨t,q⟩:=(show ∃ t,u=Value.str y t from rx); cases q; exact PySem.W.kia_one PySem.W.kitx_str I.kIn True.intro e (fun z=>nomatch z) h
 | flt y=>obtain ⟨t,q⟩:=(show ∃ t,u=Value.float y t from rx); cases q; exact PySem.W.kia_one PySem.W.kitx_float I.kIn True.intro e (fun z=>nomatch z) h
 | @lst a xs ea=>
   cases (show u=Value.ref a from rx)
   obtain ⟨_,_,n,_,h1⟩:=(show ObjOk X.prog X.w H s.heap a (.lst xs) from I.hok a _ ea)
   exact PySem.W.kia_one PySem.W.kitx_list I.kIn ⟨_,h1,rfl⟩ e (fun z=>nomatch z) h
 | @frz a ob xs ea=>
   cases (show u=Value.ref a from rx)
   obtain ⟨_,_,_,n,_,h1⟩:=(show ObjOk X.prog X.w H s.heap a (.frz ob (.lst xs)) from I.hok a _ ea)
   exact PySem.W.kia_one PySem.W.kitx_list I.kIn ⟨_,h1,rfl⟩ e (fun z=>nomatch z) h
 | @tup a xs ea=>
   cases (show u=Value.ref a from rx)
   obtain ⟨_,_,_,p⟩:=(show ObjOk X.prog X.w H s.heap a (.tup xs) from I.hok a _ ea)
   obtain ⟨o,h1,h2,_⟩:=p
   exact PySem.W.kia_one PySem.W.kitx_tuple I.kIn ⟨o,h1,h2⟩ e (fun z=>nomatch z) h
 | @dK a kvs ea=>
   cases (show u=Value.ref a from rx)
   obtain ⟨_,_,vs,_,p⟩:=(show ObjOk X.prog X.w H s.heap a (.dK kvs) from I.hok a _ ea)
   obtain ⟨o,es,ep,h1,h2,_⟩:=p
   exact PySem.W.kia_one PySem.W.kitx_dict I.kIn ⟨o,h1,h2.1⟩ e (fun z=>nomatch z) h
 | @dT a kvs ea=>
   cases (show u=Value.ref a from rx)
   obtain ⟨_,_,xs,_,o,es,ep,h1,h2,_⟩:=(show ObjOk X.prog X.w H s.heap a (.dT kvs) from I.hok a _ ea)
   exact PySem.W.kia_one PySem.W.kitx_dict I.kIn ⟨o,h1,h2.1⟩ e (fun z=>nomatch z) h
 | @ins a C dx fs ea cl ha hn htk hm=>
   cases (show u=Value.ref a from rx)
   obtain ⟨mA,O,_⟩:=zmI I.hok ea
   obtain ⟨od,J,_⟩:=O.look
   exact PySem.W.kia_one (PySem.W.kitx_own (cl.get _) cl.hd ha hn htk hm) I.kIn J e (fun z=>nomatch z) h
end
end L2
namespace L2
open PySem PySem.Spec PyProof.Rows
structure Room (k:Nat) (A:Around):Prop where
 hd:A.handled=none
 dp:A.depth + 3 * k + 5 < recursionLimit
 un:A.units + 16 * k + 200 < cLine
theorem Room.mono {j k:Nat} {A:Around} (r:Room k A) (h:j<=k):Room j A:=⟨r.hd,by have:=r.dp; omega,by have:=r.un; omega⟩
theorem Room.deeper {k:Nat} {A:Around} (r:Room (k + 1) A) (env:Env):Room k (A.deeper env):=
 ⟨r.hd,by have:=r.dp; show A.depth + 1 + 3 * k + 5 < _; omega,by have:=r.un; show A.units + 3 + 16 * k + 200 < _; omega⟩
theorem Room.depth {k:Nat} {A:Around} (r:Room k A):A.depth < recursionLimit:=by have:=r.dp; omega
theorem Room.units {k:Nat} {A:Around} (r:Room k A):A.units + 64 < cLine:=by have:=r.un; omega
noncomputable def tNil:TA:=fun _ H Q=>Q [] H
noncomputable def tCons (ta:TE) (tr:TA):TA:=fun σ H Q=>ta σ H fun x H1=>tr σ H1 fun xs H2=>Q (x :: xs) H2
section
variable {X:Cx} {e:Expr} {es:List Expr} {te:TE} {t:TA} {pos:Pos}
theorem za0:PA X [] tNil:=fun _ _ _ _ H Q I h=>Calls.spliced_nil ⟨[],H,I,.nil,h⟩
theorem zab (ha:PE X e te) (hr:PA X es t) (hs:starEach (e :: es) X.env=(false,eval e X.env) :: starEach es X.env:=by rfl):PA X (e :: es) (tCons te t):=by
 intro pos pins s σ H Q I h
 rw [hs]
 show wpAny _ _ (spliced ((false,eval e X.env) :: backTo pos (starEach es X.env))) _ _ s
 refine Calls.spliced_cons (thn (ha pins s σ H _ I h) fun u s1 ⟨x,H1,I1,r1,q1⟩=>?_)
 exact thn (hr pos pins s1 σ H1 _ I1 q1) fun us s2 ⟨xs,H2,I2,r2,q2⟩=>⟨x :: xs,H2,I2,.cons r1 r2,q2⟩
noncomputable def tTup (t:TA):TE:=fun σ H Q=>t σ H fun xs H1=>xs.length<=sizeLine /\ ∀ p,H1 p=none->Q (.ref p) (upd H1 p (.tup xs))
noncomputable def tLst (t:TA):TE:=fun σ H Q=>t σ H fun xs H1=>xs.length<=sizeLine /\ ∀ p,H1 p=none->Q (.ref p) (upd H1 p (.lst xs))
theorem znx {x1} (h:PA X es t):PE X (.Tuple es x1 pos) (tTup t):=by
 intro pins s σ H Q I hq
 refine wpAny_Tuple_spliced (thn (h pos pins s σ H _ I hq) fun us s1 ⟨xs,H1,I1,r,z,q⟩=>⟨by rw [<- r.length]; exact z,?_⟩)
 have hf:H1 s1.heap.objs.size=none:=I1.hok.fresh (Nat.le_refl _)
 refine ⟨.ref s1.heap.objs.size,upd H1 s1.heap.objs.size (.tup xs),I1.laid (t':=s1.toks) (fun b u e=>Heap.get?_push_of_some _ e) (Nat.le_refl _) ?_,rfl,q _ hf⟩
 exact ⟨z,us,r,⟨_,Heap.get?_push_size _ rfl,rfl,_,rfl⟩⟩
theorem zn0 (h:PA X es t):PE X (.List es pos) (tLst t):=by
 intro pins s σ H Q I hq
 refine wpAny_List_spliced (thn (h pos pins s σ H _ I hq) fun us s1 ⟨xs,H1,I1,r,z,q⟩=>⟨by rw [<- r.length]; exact z,?_⟩)
 have hf:H1 s1.heap.objs.size=none:=I1.hok.fresh (Nat.le_refl _)
 refine ⟨.ref s1.heap.objs.size,upd H1 s1.heap.objs.size (.lst xs),I1.laid (t':=s1.toks) (fun b u e=>Heap.get?_push_of_some _ e) (Nat.le_refl _) ?_,rfl,q _ hf⟩
 exact ⟨z,us,0,r,Heap.get?_push_size _ rfl⟩
end
noncomputable abbrev Sp:=List V->Hp->VK->XK->Prop
noncomputable abbrev CXT:=List Env->Hp->Shared->XK->Value->Shared->Prop
structure Env0 (P:Program) (w:World) (K:PySem.W.Frag) (mg:Str->Option Value) (base:Heap) (A:Around) (outer:List Env) (s:Shared) (H:Hp):Prop where
 frames:A.frames=some outer
 mod:Mod K mg base
 bs:∀ b o,base.get? b=some o->s.heap.get? b=some o /\ H b=none
 bsz:base.objs.size<=s.heap.objs.size
 funs:s.heap.FunFrames base outer
 frf:∀ b∈frs outer,H b=none
 hok:HOk P w H s.heap
 bare:AllBare s.gens
noncomputable def CE (outer:List Env) (P:Program) (w:World) (H:Hp) (s:Shared) (Q:VK) (u:Value) (s':Shared):Prop:=
 ∃ v H',s'.os=s.os /\ AllBare s'.gens /\ Un (frs outer) [] H H' s.heap s'.heap /\ HOk P w H' s'.heap /\ RelV v u /\ Q v H'
noncomputable def CR (CX:CXT) (outer:List Env) (P:Program) (w:World) (H:Hp) (s:Shared) (Q:VK) (E:XK) (r:Result) (s':Shared):Prop:=
 match r with
 | .ok (.ret u)=>CE outer P w H s Q u s'
 | .ok _=>False
 | .error e=>CX outer H s E e s'
structure FnOk (P:Program) (w:World) (K:PySem.W.Frag) (mg:Str->Option Value) (base:Heap) (CX:CXT) (k:Nat) (f:Addr) (fd:FuncData) (ps:List Str) (sp:Sp):Prop where
 len:∀ vs H Q E,sp vs H Q E->vs.length=ps.length
 run:∀ (A:Around) (outer:List Env) (s:Shared) (H:Hp) (args:Args) (us:List Value) (vs:List V) (Q:VK) (E:XK),Room k A->Env0 P w K mg base A outer s H->BindsTo s fd args (ps.zip us)->Vals vs us->sp vs H Q E->
  codeAny (model P w) A (.call (.ref f) args) (CR CX outer P w H s Q E) s
section
variable {X:Cx} {pins:List (Addr×Obj)} {σ:St} {H:Hp} {s s':Shared}
theorem Inv.env0 (I:Inv X pins σ H s):Env0 X.prog X.w X.K X.mg X.base X.A X.stack s H:=
 ⟨I.ok.frames,I.ok.mod,I.bs,Nat.le_trans I.ok.bsz I.sz,I.stack,I.stkFree,I.hok,I.bare⟩
theorem Inv.after {Q:VK} {u:Value} (I:Inv X pins σ H s) (h:CE X.stack X.prog X.w H s Q u s'):EP X pins σ Q u s':=by
 obtain ⟨v,H',os,bare,un,hok,r,q⟩:=h
 obtain ⟨hh,g,d,t,os'⟩:=s'
 obtain rfl:os'=s.os:=os
 exact ⟨v,H',I.call (h':=hh) (g':=g) (d':=d) (t':=t) (ch:=[]) un hok bare (fun b z=>absurd z (by simp)),r,q⟩
end
noncomputable def tCall (sp:Sp) (dvs:List V) (E:XK) (t:TA):TE:=fun σ H Q=>t σ H fun vs H1=>sp (vs ++ dvs) H1 Q E
noncomputable def Binds (K:PySem.W.Frag) (fd:FuncData) (ps:List Str) (ds:List Value):Prop:=
 ∀ (s:Shared) (us:List Value),K.In s.heap->(us ++ ds).length=ps.length->BindsTo s fd ⟨us,[]⟩ (ps.zip (us ++ ds))
theorem Binds.all {K:PySem.W.Frag} {fd:FuncData} {ps:List Str} (h:∀ us:List Value,us.length=ps.length->bindArgs fd ⟨us,[]⟩=pure (ps.zip us)):Binds K fd ps []:=fun s us _ hl=>by
 rw [List.append_nil] at hl ⊢
 exact .of_eq (h us hl)
noncomputable def Passes (CX:CXT) (X:Cx) (E:XK):Prop:=∀ (pins:List (Addr×Obj)) (σ:St) (H:Hp) (s:Shared) (e:Value) (s':Shared),Inv X pins σ H s->CX X.stack H s E e s'->X.xe e s'
section
variable {X:Cx} {CX:CXT} {k:Nat} {f C:Addr} {fd:FuncData} {ps:List Str} {sp:Sp} {dvs:List V} {ds:List Value} {E:XK} {x m:Str} {p pos apos:Pos} {e o:Expr} {es:List Expr} {ta:TE} {t:TA}
theorem zk7 {pins:List (Addr×Obj)} {σ:St} {H:Hp} {s:Shared} {Q:VK} {us:List Value} {vs:List V} (F:FnOk X.prog X.w X.K X.mg X.base CX k f fd ps sp) (hr:Room k X.A) (hb:Binds X.K fd ps ds) (hd:Vals dvs ds) (hx:Passes CX X E)
  (I:Inv X pins σ H s) (r:Vals vs us) (h:sp (vs ++ dvs) H Q E):wpAny (model X.prog X.w) X.A (call (.ref f) us) (EP X pins σ Q) X.xe s:=by
 have r2:Vals (vs ++ dvs) (us ++ ds):=r.append hd
 have hl:(us ++ ds).length=ps.length:=by rw [<- r2.length]; exact F.len _ _ _ _ h
 refine wpAny_call (codeAny_mono (F.run X.A X.stack s H ⟨us,[]⟩ (us ++ ds) (vs ++ dvs) Q E hr I.env0 (hb s us I.kIn hl) r2 h) fun r s' hq=>?_)
 cases r with
 | error e=>exact hx pins σ H s e s' I hq
 | ok fl=>
   cases fl with
   | ret u=>exact I.after hq
   | next=>exact False.elim hq
   | brk=>exact False.elim hq
   | cont=>exact False.elim hq
theorem zh3 (F:FnOk X.prog X.w X.K X.mg X.base CX k f fd ps sp) (hr:Room k X.A) (hg:Gl X x) (hm:X.mg x=some (.ref f)) (hk:PySem.W.keepIn X.K (.ref f)=true) (hb:Binds X.K fd ps ds) (hd:Vals dvs ds) (hx:Passes CX X E)
  (ha:PA X (e :: es) t) (hdb:(x == ("__debug__":Str))=false:=by decide) (he:starEach (e :: es) X.env=(false,eval e X.env) :: starEach es X.env:=by rfl) (hpl:(backTo pos (starEach es X.env)).any (·.1)=false:=by rfl):
  PE X (.Call (.Name x p) (e :: es) [] pos) (tCall sp dvs E t):=by
 intro pins s σ H Q I h
 refine wpAny_Call_Name_kw (zcA I hg hm ?_ hdb)
 refine PySem.W.callWith_K (h₀:=X.base) I.ok.mod.kin hk (thn (ha pos pins s σ H _ I h) fun us s1 ⟨vs,H1,I1,r,q⟩=>⟨I1.kIn,?_⟩) he hpl
 exact zk7 F hr hb hd hx I1 r q
end
section
variable {X:Cx} {CX:CXT} {k:Nat} {f C:Addr} {fd:FuncData} {ps ks:List Str} {sp:Sp} {E:XK} {x m:Str} {p pos apos kpos:Pos} {e o:Expr} {es:List Expr} {kws:List Keyword} {te ta:TE} {t tk:TA} {nm:Option Str}
variable {g:List Value->List Value->List Value} {gV:List V->List V->List V}
end
structure FnScope (N P:List Str) (sc:Scope):Prop where
 kind:sc.kind=.function
 co:sc.isCoroutine=false
 gen:sc.isGenerator=false
 nd:N.Nodup
 pre:N.take P.length=P
 par:∀ x∈P,sc.names.lookup x=some .local \/ sc.names.lookup x=some .cell
 nofree:∀ y∈sc.names,y.2≠.free
theorem ze7 {kindOf:Str->Option NameKind} {x:Str}:∀ {binds:List (Str×Value)} {m:Str->Option Value},(∀ v,(x,v)∉binds)->bindL kindOf binds m x=m x
 | [],_,_=>rfl
 | (n,v) :: r,m,h=>by
   unfold bindL
   rw [ze7 fun w hw=>h w (List.mem_cons_of_mem _ hw)]
   split
   ·have:x≠n:=by rintro rfl; exact h v List.mem_cons_self
    simp [this]
   ·rfl
theorem ze2 {kindOf:Str->Option NameKind} {x:Str}:∀ {binds:List (Str×Value)} {m:Str->Option Value},(∀ v,(x,v)∉binds)->bindC kindOf binds m x=m x
 | [],_,_=>rfl
 | (n,v) :: r,m,h=>by
   unfold bindC
   rw [ze2 fun w hw=>h w (List.mem_cons_of_mem _ hw)]
   split
   ·rfl
   ·have:x≠n:=by rintro rfl; exact h v List.mem_cons_self
    simp [this]
theorem zfc {kindOf:Str->Option NameKind} {x:Str} {v:Value}:∀ {P:List Str} {vs:List Value} {i:Nat} {m:Str->Option Value},P.Nodup->P[i]?=some x->vs[i]?=some v->kindOf x=some .local->
  bindL kindOf (P.zip vs) m x=some v
 | [],_,_,_,_,h,_,_=>by simp at h
 | _ :: _,[],_,_,_,_,h,_=>by simp at h
 | p :: P,w :: vs,0,m,nd,h1,h2,hk=>by
   simp at h1 h2; subst h1; subst h2
   show bindL kindOf ((p,w) :: P.zip vs) m p=_
   unfold bindL
   rw [ze7 fun v hv=>(List.nodup_cons.mp nd).1 (List.of_mem_zip hv).1,if_pos hk]
   simp
 | p :: P,w :: vs,i + 1,m,nd,h1,h2,hk=>by
   show bindL kindOf ((p,w) :: P.zip vs) m x=_
   unfold bindL
   exact zfc (i:=i) (List.nodup_cons.mp nd).2 (by simpa using h1) (by simpa using h2) hk
theorem zfp {kindOf:Str->Option NameKind} {x:Str} {v:Value}:∀ {P:List Str} {vs:List Value} {i:Nat} {m:Str->Option Value},P.Nodup->P[i]?=some x->vs[i]?=some v->kindOf x≠some .local->
  bindC kindOf (P.zip vs) m x=some v
 | [],_,_,_,_,h,_,_=>by simp at h
 | _ :: _,[],_,_,_,_,h,_=>by simp at h
 | p :: P,w :: vs,0,m,nd,h1,h2,hk=>by
   simp at h1 h2; subst h1; subst h2
   show bindC kindOf ((p,w) :: P.zip vs) m p=_
   unfold bindC
   rw [ze2 fun v hv=>(List.nodup_cons.mp nd).1 (List.of_mem_zip hv).1,if_neg hk]
   simp
 | p :: P,w :: vs,i + 1,m,nd,h1,h2,hk=>by
   show bindC kindOf ((p,w) :: P.zip vs) m x=_
   unfold bindC
   exact zfp (i:=i) (List.nodup_cons.mp nd).2 (by simpa using h1) (by simpa using h2) hk
noncomputable def start (N:List Str) (vs:List V):St:=vs.map some ++ List.replicate (N.length - vs.length) none
noncomputable def cxOf (CX:CXT) (P:Program) (w:World) (K:PySem.W.Frag) (mg:Str->Option Value) (base:Heap) (N:List Str) (qual:Str) (scope:Scope) (f:Addr) (cd:Value) (A:Around) (outer:List Env) (s:Shared) (H:Hp) (E:XK):Cx where
 prog:=P
 w:=w
 K:=K
 mg:=mg
 base:=base
 A:=A.deeper (envOfC qual scope s.heap.objs.size f cd)
 N:=N
 s₀:=s
 H₀:=H
 env:=envOfC qual scope s.heap.objs.size f cd
 outer:=outer
 stack:=envOfC qual scope s.heap.objs.size f cd :: outer
 ex:=[]
 calm:=true
 fn:=fun _=>true
 pn:=[]
 xe:=fun e s'=>wpAny (model P w) (A.deeper (envOfC qual scope s.heap.objs.size f cd)) (leaving (envOfC qual scope s.heap.objs.size f cd) e) (fun _ s''=>CX outer H s E e s'') (fun e' s''=>CX outer H s E e' s'') s'
theorem zgM {sc:Scope} {n:Nat} {x:Str} (h:sc.names.lookup x=some .cell):∃ c,(cellsFrom n sc.names []).lookup x=some c:=by
 have q:=PySem.W.cellsFrom_some sc.names n [] (.inl h)
 exact Option.isSome_iff_exists.mp q
theorem zfa {CX:CXT} {P:Program} {w:World} {K:PySem.W.Frag} {mg:Str->Option Value} {base:Heap} {N ps:List Str} {qual:Str} {scope:Scope} {f:Addr} {cd:Value} {A:Around} {outer:List Env} {s s1:Shared} {H:Hp} {E:XK} {us:List Value} {vs:List V}
  (S:FnScope N ps scope) (hd:A.handled=none) (e0:Env0 P w K mg base A outer s H) (hl:vs.length=ps.length) (r:Vals vs us)
  (x:InCallC s s.heap.objs.size (bindL (envOfC qual scope s.heap.objs.size f cd).kindOf (ps.zip us) fun _=>none) (cellsFrom (s.heap.objs.size + 1) scope.names []) (bindC (envOfC qual scope s.heap.objs.size f cd).kindOf (ps.zip us) fun _=>none) s1):
  Inv (cxOf CX P w K mg base N qual scope f cd A outer s H E) [] (start N vs) H s1:=by
 have hpl:ps.length<=N.length:=by have:=congrArg List.length S.pre; rw [List.length_take] at this; omega
 obtain ⟨h1,tk,rfl,hk⟩:=x.done
 have noA:∀ b:Addr,b∉(cxOf CX P w K mg base N qual scope f cd A outer s H E).ex:=fun b z=>absurd (show b∈([]:List Addr) from z) (by simp)
 refine ⟨⟨e0.mod,S.kind,rfl,rfl,Nat.le_refl _,fun y z c h1 h2=>?_,fun y hy=>?_,fun y c _ h=>?_,fun _=>hd,Around.frames_deeper e0.frames,.inr ⟨rfl,rfl⟩,fun b z=>absurd z (noA b),e0.bs,e0.bsz,fun b _ _=>noA b,fun b z=>absurd z (noA b),e0.funs,e0.frf⟩,
  rfl,e0.bare,Un.kept hk,⟨_,x.toInCall.ns,fun i y v h1 h2 h3=>?_⟩,fun y c h=>⟨_,x.cell y c h⟩,e0.hok.fresh (Nat.le_refl _),fun y c h=>?_,fun p hp=>absurd (show p∈([]:List (Addr×Obj)) from hp) (by simp),e0.hok.kept hk,?_⟩
 ·exact name_of_addr x.apart (PySem.mem_of_lookup h1) (PySem.mem_of_lookup h2)
 ·have hy:scope.names.lookup y=some .cell \/ scope.names.lookup y=some .free:=hy
  rcases hy with hy | hy
  ·exact zgM hy
  ·exact absurd rfl (S.nofree _ (PySem.mem_of_lookup hy))
 ·exact Nat.le_of_lt (x.above y c (PySem.mem_of_lookup h))
 ·have hi:i < vs.length:=by
   unfold start at h2
   by_cases hi:i < vs.length
   ·exact hi
   ·rw [List.getElem?_append_right (by simpa using hi)] at h2
    rw [List.getElem?_replicate] at h2
    split at h2 <;> cases h2
  have ha:vs[i]?=some v:=by
   unfold start at h2
   rw [List.getElem?_append_left (by simpa using hi),List.getElem?_map] at h2
   cases e:vs[i]? with
   | none=>rw [e] at h2; cases h2
   | some a=>rw [e] at h2; cases h2; rfl
  obtain ⟨u,hu,rv⟩:=r.get ha
  have hp:ps[i]?=some y:=by
   rw [<- S.pre,List.getElem?_take_of_lt (by omega)]; exact h1
  have ndP:ps.Nodup:=by rw [<- S.pre]; exact S.nd.sublist (List.take_sublist _ _)
  refine ⟨u,rv,?_⟩
  rcases S.par y (List.mem_of_getElem? hp) with k | k
  ·exact .inl ⟨k,zfc ndP hp hu k⟩
  ·obtain ⟨c,e⟩:=zgM (n:=s.heap.objs.size + 1) k
   refine .inr ⟨.inl k,c,e,?_⟩
   have q:=x.cell y c e
   rw [zfp ndP hp hu (by show scope.names.lookup y≠_; rw [k]; decide)] at q
   exact q
 ·exact e0.hok.fresh (Nat.le_of_lt (x.above y c (PySem.mem_of_lookup h)))
 ·unfold start
  show _=N.length
  rw [List.length_append,List.length_map,List.length_replicate]
  omega
theorem zmi {CX:CXT} {P:Program} {w:World} {K:PySem.W.Frag} {mg:Str->Option Value} {base:Heap} {k:Nat} {f:Addr} {name qual:Str} {params:Arguments} {body:List Stmt} {scope:Scope} {dV kV doc pm cdv ct oc:Value} {an od:Option Addr}
  {osl:Array (Option Value)} {N ps:List Str} {sp:Sp} (lk:K.lookup f=some ⟨oc,od,.func (PySem.W.fnOf name qual params body scope dV kV doc pm an cdv ct),osl⟩) (hcd:PySem.W.codeIn K cdv qual=true) (S:FnScope N ps scope)
  (len:∀ vs H Q E,sp vs H Q E->vs.length=ps.length)
  (hbody:∀ (A:Around) (outer:List Env) (s:Shared) (H:Hp) (vs:List V) (Q:VK) (E:XK),Room k (A.deeper (envOfC qual scope s.heap.objs.size f cdv))->sp vs H Q E->
   ∃ t,PSs (cxOf CX P w K mg base N qual scope f cdv A outer s H E) body t /\ t { nx:=fun _ H'=>Q .non H',rt:=Q } (start N vs) H):
  FnOk P w K mg base CX (k + 1) f (PySem.W.fnOf name qual params body scope dV kV doc pm an cdv ct) ps sp:=by
 refine ⟨len,fun A outer s H args us vs Q E hr e0 hb r hsp=>?_⟩
 have hl:=len _ _ _ _ hsp
 have KX:K.In s.heap:=e0.mod.kin.keeps fun b o e=>(e0.bs b o e).1
 have lim:s.heap.NoLimit:=e0.mod.nolimit.keeps fun b o e=>(e0.bs b o e).1
 have hkind:∀ y∈ps.zip us,scope.names.lookup y.1=some .local \/ (scope.names.lookup y.1=some .cell /\ ((cellsFrom (s.heap.objs.size + 1) scope.names []).lookup y.1).isSome=true):=fun ⟨n,v⟩ hy=>by
  rcases S.par n (List.of_mem_zip hy).1 with q | q
  ·exact .inl q
  ·exact .inr ⟨q,PySem.W.cellsFrom_some _ _ _ (.inl q)⟩
 refine codeAny_call_function hr.depth (KX _ _ lk) rfl S.co S.gen rfl (PySem.W.codeRec_of KX hcd) (hb _ _ _ _ ?_)
 refine wpAny_newFunctionEnv_cells S.kind hkind fun env he s1 x=>?_
 subst he
 refine ⟨lim.keeps x.toInCall.keep,codeAny_func ?_⟩
 obtain ⟨t,ht,hq⟩:=hbody A outer s H vs Q E (hr.deeper _) hsp
 have I:Inv (cxOf CX P w K mg base N qual scope f cdv A outer s H E) [] (start N vs) H s1:=zfa S hr.hd e0 hl r x
 refine wpAny_mono (ht [] s1 (start N vs) H _ I hq) (fun fl s' hs=>?_) fun e s' hs=>hs
 have fin:∀ {σ':St} {H':Hp} {v:V} {u:Value},Inv (cxOf CX P w K mg base N qual scope f cdv A outer s H E) [] σ' H' s'->RelV v u->Q v H'->CE outer P w H s Q u s':=
  fun {σ' H' v u} J rv q=>⟨v,H',J.os,J.bare,J.base,J.hok,rv,q⟩
 cases fl with
 | ret u=>
   obtain ⟨v,σ',H',J,rv,q⟩:=hs
   exact fin J rv q
 | next=>
   obtain ⟨σ',H',J,q⟩:=hs
   exact fin (v:=V.non) (u:=Value.none) J rfl q
 | brk=>
   obtain ⟨_,_,_,q⟩:=hs
   exact False.elim q
 | cont=>
   obtain ⟨_,_,_,q⟩:=hs
   exact False.elim q
end L2
namespace L2
open PySem PySem.Spec PyProof.Rows
section
variable {X:Cx} {x:Str} {p pos:Pos} {e:Expr} {es:List Expr} {t:TA} {id T:String} {r:List V->Hp->VK->Prop}
noncomputable def tCB (r:List V->Hp->VK->Prop) (t:TA):TE:=fun σ H Q=>t σ H fun vs H1=>r vs H1 Q
theorem zcY (hc:CallR X (.builtin id) r) (hg:Gl X x) (hm:X.mg x=none) (hv:bootBuiltins x=some (.builtin id)) (ha:PA X (e :: es) t) (hn:x≠"__name__":=by decide) (hdb:(x == ("__debug__":Str))=false:=by decide)
  (he:starEach (e :: es) X.env=(false,eval e X.env) :: starEach es X.env:=by rfl) (hpl:(backTo pos (starEach es X.env)).any (·.1)=false:=by rfl):PE X (.Call (.Name x p) (e :: es) [] pos) (tCB r t):=by
 intro pins s σ H Q I h
 refine wpAny_Call_Name_kw (zcT I hg hm hv ?_ hn hdb)
 exact PyProof.Rows.callWith_builtin1 (thn (ha pos pins s σ H _ I h) fun us s1 ⟨vs,H1,I1,r1,q1⟩=>hc pins s1 σ H1 vs us Q I1 r1 q1) he hpl
theorem zdg (hc:CallR X (.type T) r) (hg:Gl X x) (hm:X.mg x=none) (hv:bootBuiltins x=some (.type T)) (ha:PA X (e :: es) t) (hn:x≠"__name__":=by decide) (hdb:(x == ("__debug__":Str))=false:=by decide)
  (he:starEach (e :: es) X.env=(false,eval e X.env) :: starEach es X.env:=by rfl) (hpl:(backTo pos (starEach es X.env)).any (·.1)=false:=by rfl):PE X (.Call (.Name x p) (e :: es) [] pos) (tCB r t):=by
 intro pins s σ H Q I h
 refine wpAny_Call_Name_kw (zcT I hg hm hv ?_ hn hdb)
 exact PyProof.Rows.callWith_type1 (thn (ha pos pins s σ H _ I h) fun us s1 ⟨vs,H1,I1,r1,q1⟩=>hc pins s1 σ H1 vs us Q I1 r1 q1) he hpl
end
end L2
namespace HT
open PySem PyProof.Rows
section
open PySem.SeqAt
open PySem.AutoSeq1 (wpAny_loadPart')
open PySem.MeetsSeq PySem.MeetsSeq2 PySem.MeetsSeq3
end
section
variable {prog:Program} {w:World} {A:Around} {E:Value->Shared->Prop} {s:Shared}
theorem zmx {t b:Addr} {vs ws:List Value} {Q:Value->Shared->Prop} (ht:IsTup s.heap t vs.toArray) (hb:IsTup s.heap b ws.toArray) (hv:vs≠[])
  (h1:ws=[]->Q (.ref t) s) (h2:ws≠[]->Q (.ref s.heap.objs.size) { s with heap:=s.heap.push { cls:=.type "tuple",data:=.seq (vs ++ ws).toArray } })
  (hsz:vs.length + ws.length<=sizeLine):wpAny (model prog w) A (binaryOp .Add (.ref t) (.ref b)) Q E s:=by
 obtain ⟨⟨cls,dd,data,sl⟩,ho,hc,n,hd⟩:=id ht
 obtain ⟨⟨cls2,dd2,data2,sl2⟩,ho2,hc2,n2,hd2⟩:=id hb
 simp only at hc hd hc2 hd2
 subst hc hd hc2 hd2
 have e:vs.toArray ++ ws.toArray=(vs ++ ws).toArray:=by simp
 by_cases hw:ws=[]
 ·exact concat_meets ⟨_,ho,rfl⟩ ⟨_,ho2,rfl⟩ noFill_tuple_add seq_tuple_add PySem.F.slot_tuple_add PySem.F.entry_tuple_add (PySem.F.args_tuple_add_2 _ _)
   (tuple_addW1 t b vs.toArray ws.toArray n n2 dd dd2 sl sl2 (by simpa using hv) (by simp [hw])) ⟨ho,ho2,h1 hw⟩
 ·refine concat_meets ⟨_,ho,rfl⟩ ⟨_,ho2,rfl⟩ noFill_tuple_add seq_tuple_add PySem.F.slot_tuple_add PySem.F.entry_tuple_add (PySem.F.args_tuple_add_2 _ _)
   (tuple_addW2 t b vs.toArray ws.toArray n n2 dd dd2 sl sl2 (by simpa using hv) (by simpa using hw) (by rw [List.size_toArray,List.size_toArray]; exact hsz)) ⟨ho,ho2,?_⟩
  rw [e]
  exact h2 hw
noncomputable def sIx (n d:Nat):Option Int->Nat
 | none=>d
 | some v=>if v < 0 then (v + (n:Int)).toNat else min v.toNat n
theorem zjs (n d k:Nat):sIx n d (some (k:Int))=min k n:=by
 show (if (k:Int) < 0 then ((k:Int) + (n:Int)).toNat else min (k:Int).toNat n)=min k n
 rw [if_neg (by omega),Int.toNat_natCast]
end
end HT
namespace L2
open PySem PySem.Spec PyProof.Rows
noncomputable abbrev TO:=St->Hp->(Option Int->Hp->Prop)->Prop
noncomputable def PO (X:Cx) (e:Option Expr) (t:TO):Prop:=
 ∀ (pins:List (Addr×Obj)) (s:Shared) (σ:St) (H:Hp) (Q:Option Int->Hp->Prop),Inv X pins σ H s->t σ H Q->
   wpAny (model X.prog X.w) X.A (evalPart e X.env) (fun u s'=>∃ o H',Inv X pins σ H' s' /\ IsPart u o /\ Q o H') X.xe s
noncomputable def tNoPart:TO:=fun _ H Q=>Q none H
noncomputable def tPart (t:TE):TO:=fun σ H Q=>t σ H fun x H1=>∃ i,x=.int i /\ Q (some i) H1
theorem zdY {ns:List Int}:∀ {us:List Value},Vals (ns.map V.int) us->IntsAre us ns:=by
 induction ns with
 | nil=>intro us r; rw [List.map_nil] at r; cases r; exact .nil
 | cons n ns ih=>
   intro us r
   rw [List.map_cons] at r
   cases r with
   | cons r1 r2=>
     obtain ⟨t,e⟩:=r1
     subst e
     exact .cons n t (ih r2)
section
variable {X:Cx} {e:Expr} {te:TE} {lo hi:Option Expr} {tl th:TO} {pos p2:Pos}
theorem zmy:PO X none tNoPart:=by
 intro pins s σ H Q I h
 rw [evalPart_none]
 exact wpAny_pure ⟨none,H,I,.none,h⟩
theorem zmz (h:PE X e te):PO X (some e) (tPart te):=by
 intro pins s σ H Q I hw
 rw [evalPart_some]
 refine thn (h pins s σ H _ I hw) fun u s1 ⟨x,H1,I1,r1,q1⟩=>?_
 obtain ⟨i,rfl,q⟩:=q1
 obtain ⟨t,rfl⟩:=r1
 exact ⟨some i,H1,I1,.int i t,q⟩
noncomputable def SlR (X:Cx) (r:V->Option Int->Option Int->Hp->VK->Prop):Prop:=
 ∀ (pins:List (Addr×Obj)) (s:Shared) (σ:St) (H:Hp) (x:V) (v vl vu:Value) (lo hi:Option Int) (sl:Addr) (Q:VK),Inv X pins σ H s->RelV x v->s.heap.IsSliceOf sl vl vu .none->IsPart vl lo->IsPart vu hi->r x lo hi H Q->
   ∃ T id,typeLookup (.type T) "__getitem__"=pure (some (.builtin id)) /\ s.TypeIs v T /\ wpAny (model X.prog X.w) X.A (getItem v (.ref sl)) (EP X pins σ Q) X.xe s
noncomputable def tSl (r:V->Option Int->Option Int->Hp->VK->Prop) (te:TE) (tl th:TO):TE:=fun σ H Q=>te σ H fun x H1=>tl σ H1 fun l H2=>th σ H2 fun u H3=>r x l u H3 Q
theorem zkx {r:V->Option Int->Option Int->Hp->VK->Prop} (hr:SlR X r) (he:PE X e te) (hl:PO X lo tl) (hu:PO X hi th):PE X (.Subscript e (.Slice lo hi none p2) pos) (tSl r te tl th):=by
 intro pins s σ H Q I h
 refine Subscript_ (thn (he pins s σ H _ I h) fun v s1 ⟨x,H1,I1,r1,q1⟩=>?_)
 refine wpAny_Slice (thn (hl pins s1 σ H1 _ I1 q1) fun vl s2 ⟨l,H2,I2,pl,q2⟩=>thn (hu pins s2 σ H2 _ I2 q2) fun vu s3 ⟨u,H3,I3,pu,q3⟩=>?_)
 rw [evalPart_none]
 refine wpAny_pure ?_
 have I4:Inv X pins σ H3 { s3 with heap:=s3.heap.push { cls:=.type "slice",data:=.fields #[vl,vu,.none] } }:=I3.kept (t':=s3.toks) fun b ob q=>Heap.get?_push_of_some _ q
 obtain ⟨T,id,hT,ht,hg⟩:=hr pins { s3 with heap:=s3.heap.push { cls:=.type "slice",data:=.fields #[vl,vu,.none] } } σ H3 x v vl vu l u s3.heap.objs.size Q I4 r1 (Heap.IsSliceOf.new ..) pl pu q3
 show wpAny (model X.prog X.w) X.A (subscriptTail e (.Slice lo hi none p2) v (.ref s3.heap.objs.size)) (EP X pins σ Q) X.xe { s3 with heap:=s3.heap.push { cls:=.type "slice",data:=.fields #[vl,vu,.none] } }
 exact tail_any (ops:=[.ref s3.heap.objs.size,v]) ht hT hg (by with_unfolding_all rfl)
noncomputable def cutV (xs:List V) (lo hi:Option Int):List V:=(xs.drop (HT.sIx xs.length 0 lo)).take (HT.sIx xs.length xs.length hi - HT.sIx xs.length 0 lo)
theorem zgr (xs:List V) (lo hi:Option Int):(cutV xs lo hi).length<=xs.length:=by
 unfold cutV
 rw [List.length_take,List.length_drop]
 omega
noncomputable def rCatT (K:PySem.W.Frag):R2:=fun x y H Q=>∃ a b xs ys,x=.ref a /\ y=.ref b /\ SqT K H a xs /\ SqT K H b ys /\ xs≠[] /\ xs.length + ys.length<=sizeLine /\
 (ys=[]->Q (.ref a) H) /\ (ys≠[]->∀ p,H p=none->Q (.ref p) (upd H p (.tup (xs ++ ys))))
theorem Vals.nil_iff {xs:List V} {us:List Value} (r:Vals xs us):us=[]↔xs=[]:=by
 cases r with
 | nil=>simp
 | cons _ _=>simp
theorem zmf:OpR X (binaryOp .Add) (rCatT X.K):=by
 intro pins s σ H x y v u Q I rx ry h
 obtain ⟨a,b,xs,ys,rfl,rfl,ha,hb,hx,hz,q1,q2⟩:=h
 cases rx
 cases ry
 obtain ⟨its,r1,p1,_⟩:=I.tuple ha
 obtain ⟨its2,r2,p2,_⟩:=I.tuple hb
 refine HT.zmx p1 p2 (fun z=>hx (r1.nil_iff.mp z)) (fun z=>⟨.ref a,H,I,rfl,q1 (r2.nil_iff.mp z)⟩) (fun z=>?_) (by rw [<- r1.length,<- r2.length]; exact hz)
 refine ⟨.ref s.heap.objs.size,_,I.laid (t':=s.toks) (o:=.tup (xs ++ ys)) (fun b ob q=>Heap.get?_push_of_some _ q) (Nat.le_refl _) ?_,rfl,q2 (fun w=>z (r2.nil_iff.mpr w)) _ (I.hok.fresh (Nat.le_refl _))⟩
 exact ⟨by rw [List.length_append]; exact hz,_,r1.append r2,IsTup.new _ _⟩
end
end L2
namespace L2
open PySem PySem.Spec PyProof.Rows
noncomputable def ixN (n:Nat) (i:Int):Option Nat:=if 0<=i then (if i < n then some i.toNat else none) else if -(n:Int)<=i then some (i + n).toNat else none
noncomputable def atI {α:Type} (xs:List α) (i:Int):Option α:=(ixN xs.length i).bind fun j=>xs[j]?
theorem zmT {n:Nat} {i:Int} {j:Nat} (h:ixN n i=some j):seqIndex? i n=some j /\ j < n /\ -(n:Int)<=i /\ i < n:=by
 unfold ixN at h
 by_cases h0:0<=i
 ·rw [if_pos h0] at h
  by_cases h1:i < n
  ·rw [if_pos h1] at h
   have e:i.toNat=j:=Option.some.inj h
   exact ⟨by rw [seqIndex_of h0 h1,e],by omega,by omega,h1⟩
  ·rw [if_neg h1] at h; cases h
 ·rw [if_neg h0] at h
  by_cases h1: -(n:Int)<=i
  ·rw [if_pos h1] at h
   have e:(i + n).toNat=j:=Option.some.inj h
   exact ⟨by rw [seqIndex_neg (by omega) h1,e],by omega,h1,by omega⟩
  ·rw [if_neg h1] at h; cases h
theorem zgn {α:Type} {xs:List α} {i:Int} {v:α} (h:atI xs i=some v):∃ j,seqIndex? i xs.length=some j /\ xs[j]?=some v /\ j < xs.length /\ -(xs.length:Int)<=i /\ i < xs.length:=by
 unfold atI at h
 cases e:ixN xs.length i with
 | none=>rw [e] at h; cases h
 | some j=>
   rw [e] at h
   obtain ⟨h1,h2,h3,h4⟩:=zmT e
   exact ⟨j,h1,h,h2,h3,h4⟩
theorem zba {α:Type} {xs:List α} {j:Nat} {v:α} (h:xs[j]?=some v):atI xs (j:Int)=some v:=by
 have hj:j < xs.length:=(List.getElem?_eq_some_iff.mp h).1
 have e:ixN xs.length (j:Int)=some j:=by
  unfold ixN
  rw [if_pos (by omega),if_pos (by omega)]; simp
 unfold atI; rw [e]; exact h
noncomputable def PlainIx (b:Expr):Prop:=∀ o i,subscripted b false o i=operate [o,i] (getItem o i)
noncomputable def IxR (X:Cx) (r:R2):Prop:=
 ∀ (value slice:Expr) (pins:List (Addr×Obj)) (s:Shared) (σ:St) (H:Hp) (x y:V) (v u:Value) (Q:VK),Inv X pins σ H s->RelV x v->RelV y u->r x y H Q->
   subscripted slice false v u=operate [v,u] (getItem v u)->wpAny (model X.prog X.w) X.A (subscriptTail value slice v u) (EP X pins σ Q) X.xe s
noncomputable def MtR (X:Cx) (id:String) (r:V->List V->Hp->VK->Prop):Prop:=
 ∀ (pins:List (Addr×Obj)) (s:Shared) (σ:St) (H:Hp) (x:V) (xs:List V) (v:Value) (us:List Value) (Q:VK),Inv X pins σ H s->RelV x v->Vals xs us->r x xs H Q->
   wpAny (model X.prog X.w) X.A (call (.builtin id) (v :: us)) (EP X pins σ Q) X.xe s
section
variable {X:Cx} {a b:Expr} {ta tb:TE} {pos:Pos}
theorem IxR.or {r r':R2} (h:IxR X r) (h':IxR X r'):IxR X (fun x y H Q=>r x y H Q \/ r' x y H Q):=by
 intro value slice pins s σ H x y v u Q I rx ry q hs
 rcases q with q | q
 ·exact h value slice pins s σ H x y v u Q I rx ry q hs
 ·exact h' value slice pins s σ H x y v u Q I rx ry q hs
theorem zos {r:R2} (hr:IxR X r) (ha:PE X a ta) (hb:PE X b tb) (hs:PlainIx b):PE X (.Subscript a b pos) (tOp r ta tb):=by
 intro pins s σ H Q I h
 exact Subscript_ (binT ha hb I h fun v u s2 x y H2 I2 rx ry q=>hr a b pins s2 σ H2 x y v u Q I2 rx ry q (hs _ _))
noncomputable def rIxL (K:PySem.W.Frag):R2:=fun x y H Q=>∃ p xs i v,x=.ref p /\ y=.int i /\ SqL K H p xs /\ atI xs i=some v /\ Q v H
noncomputable def rIxT (K:PySem.W.Frag):R2:=fun x y H Q=>∃ p xs i v,x=.ref p /\ y=.int i /\ SqT K H p xs /\ atI xs i=some v /\ Q v H
noncomputable def rIxS:R2:=fun x y H Q=>∃ z i c,x=.str z /\ y=.int i /\ z.length<=sizeLine /\ atI z.cps.toList i=some c /\ Q (.str ⟨#[c]⟩) H
theorem zly:IxR X (rIxL X.K):=by
 intro value slice pins s σ H x y v u Q I rx ry h hs
 obtain ⟨p,xs,i,z,rfl,rfl,hq,he,q⟩:=h
 cases rx
 obtain ⟨t,rfl⟩:=ry
 obtain ⟨its,r,pl,hz⟩:=I.list hq
 obtain ⟨j,h1,h2,h3,h4,h5⟩:=zgn he
 obtain ⟨w,ew,rw'⟩:=r.get h2
 have hl:=r.length
 have hn:=line63
 have fin:EP X pins σ Q w s:=⟨z,H,I,rw',q⟩
 by_cases h0:0<=i
 ·have hj:i.toNat=j:=by
   rw [seqIndex_of h0 h5] at h1
   exact Option.some.inj h1
  exact item_listR pl.isList h0 (by omega) (by rw [hj]; simpa using ew) fin hs
 ·have hj:(i + (its.toArray.size:Int)).toNat=j:=by
   rw [seqIndex_neg (by omega) h4] at h1
   rw [List.size_toArray,<- hl]
   exact Option.some.inj h1
  exact subscriptTail_builtinR (x:=w) pl.isList.typeIs slot_list_getitem.lookup
   (wpAny_getItem_list_neg (Q:=fun r s'=>r=w /\ EP X pins σ Q r s') pl.isList (by omega) (by rw [List.size_toArray] <;> omega) (by omega) (by rw [hj]; simpa using ew) ⟨rfl,fin⟩) hs
theorem zn3:IxR X (rIxT X.K):=by
 intro value slice pins s σ H x y v u Q I rx ry h hs
 obtain ⟨p,xs,i,z,rfl,rfl,hq,he,q⟩:=h
 cases rx
 obtain ⟨t,rfl⟩:=ry
 obtain ⟨its,r,pl,hz⟩:=I.tuple hq
 obtain ⟨j,h1,h2,h3,h4,h5⟩:=zgn he
 obtain ⟨w,ew,rw'⟩:=r.get h2
 have hl:=r.length
 have hn:=line63
 have fin:EP X pins σ Q w s:=⟨z,H,I,rw',q⟩
 exact subscriptTail_builtinR (x:=w) pl.typeIs slot_tuple_getitem.lookup
  (getItem_tuple (j:=j) (Q:=fun r s'=>r=w /\ EP X pins σ Q r s') pl (by omega) (by omega) (by rw [List.size_toArray,<- hl]; exact h1) (by simpa using ew) ⟨rfl,fin⟩) hs
theorem znu:IxR X rIxS:=by
 intro value slice pins s σ H x y v u Q I rx ry h hs
 obtain ⟨z,i,c,rfl,rfl,hz,he,q⟩:=h
 obtain ⟨t,rfl⟩:=rx
 obtain ⟨t',rfl⟩:=ry
 obtain ⟨j,h1,h2,h3,h4,h5⟩:=zgn he
 have hl:z.cps.toList.length=z.length:=by simp [Str.length]
 rw [hl] at h1 h4 h5
 have hn:=line63
 exact tail_any (typeIs_str s z t) slot_str_getitem.lookup (getItem_str (c:=c) (by
  have e1:decide (i < -(2 ^ 63:Int))=false:=decide_eq_false (by omega)
  have e2:decide (i >=2 ^ 63)=false:=decide_eq_false (by omega)
  rw [e1,e2,Bool.or_false]) (by rw [h1]; simpa using h2) ⟨.str ⟨#[c]⟩,H,I.tok _,⟨_,rfl⟩,q⟩) hs
noncomputable def rIx (K:PySem.W.Frag):R2:=fun x y H Q=>rIxL K x y H Q \/ rIxT K x y H Q \/ rIxS x y H Q
theorem zm3:IxR X (rIx X.K):=zly.or (zn3.or znu)
theorem ze6 (lo hi:Option Int) (n:Nat):(sliceBounds lo hi none n).1=((HT.sIx n 0 lo:Nat):Int) /\ (sliceBounds lo hi none n).2.1=((HT.sIx n n hi:Nat):Int) /\ (sliceBounds lo hi none n).2.2=1:=by
 refine ⟨?_,?_,rfl⟩
 ·cases lo with
  | none=>simp [sliceBounds,HT.sIx]
  | some i=>
    simp only [sliceBounds,HT.sIx,Option.getD_none,show (1:Int) > 0 by decide,if_true]
    by_cases h:i < 0
    ·simp only [h,if_true] <;> omega
    ·simp only [h,if_false] <;> omega
 ·cases hi with
  | none=>simp [sliceBounds,HT.sIx]
  | some i=>
    simp only [sliceBounds,HT.sIx,Option.getD_none,show (1:Int) > 0 by decide,if_true]
    by_cases h:i < 0
    ·simp only [h,if_true] <;> omega
    ·simp only [h,if_false] <;> omega
theorem zez (its:List Value) (lo hi:Option Int):slicePick its.toArray lo hi none=((its.drop (HT.sIx its.length 0 lo)).take (HT.sIx its.length its.length hi - HT.sIx its.length 0 lo)).toArray:=by
 obtain ⟨h1,h2,h3⟩:=ze6 lo hi its.toArray.size
 unfold slicePick
 rw [h1,h2,h3]
 simp only [sliceRange_one,pick_run,List.size_toArray] <;> rfl
noncomputable def rSlL (K:PySem.W.Frag):V->Option Int->Option Int->Hp->VK->Prop:=fun x lo hi H Q=>∃ a xs,x=.ref a /\ SqL K H a xs /\ ∀ p,H p=none->Q (.ref p) (upd H p (.lst (cutV xs lo hi)))
theorem zlC:SlR X (rSlL X.K):=by
 intro pins s σ H x v vl vu lo hi sl Q I rx hs pl pu h
 obtain ⟨a,xs,rfl,hx,q⟩:=h
 cases rx
 obtain ⟨its,r,ht,hz⟩:=I.list hx
 have hlen:=r.length
 refine ⟨"list",_,slot_list_getitem.lookup,ht.isList.typeIs,?_⟩
 refine wpAny_getItem_list_slice ht.isList hs pl pu .none (by simp) ?_ (by rw [List.size_toArray] <;> omega)
 rw [zez,<- hlen]
 refine ⟨.ref s.heap.objs.size,_,I.laid (t':=s.toks) (o:=.lst (cutV xs lo hi)) (fun b ob q=>Heap.get?_push_of_some _ q) (Nat.le_refl _) ?_,rfl,q _ (I.hok.fresh (Nat.le_refl _))⟩
 exact ⟨Nat.le_trans (zgr xs lo hi) hz,_,0,(r.drop (HT.sIx xs.length 0 lo)).take (HT.sIx xs.length xs.length hi - HT.sIx xs.length 0 lo),Heap.get?_push_size _ rfl⟩
noncomputable def flatV:V->Bool
 | .non=>true
 | .bl _=>true
 | .int _=>true
 | .str _=>true
 | _=>false
noncomputable def eqV:V->V->Bool
 | .non,.non=>true
 | .bl a,.bl b=>a == b
 | .bl a,.int b=>(if a then 1 else 0) == b
 | .int a,.bl b=>a == (if b then 1 else 0)
 | .int a,.int b=>a == b
 | .str a,.str b=>a == b
 | _,_=>false
theorem znU {A:Around} {s:Shared} {y x:V} {u v:Value} (ry:RelV y u) (rx:RelV x v) (fy:flatV y=true) (fx:flatV x=true):SeqAt.EqAt A s u v (eqV y x):=by
 cases y with
 | non=>
   cases ry
   cases x with
   | non=>cases rx; exact SeqAt.EqAt.same _
   | bl b=>cases rx; exact SeqAt.EqAt.none_bool b
   | int b=>obtain ⟨t,rfl⟩:=rx; exact SeqAt.EqAt.none_int b t
   | str b=>obtain ⟨t,rfl⟩:=rx; exact SeqAt.EqAt.none_str b t
   | _=>exact absurd (show false=true from fx) Bool.false_ne_true
 | bl a=>
   cases ry
   cases x with
   | non=>cases rx; exact SeqAt.EqAt.bool_none a
   | bl b=>cases rx; exact SeqAt.EqAt.bool_bool a b
   | int b=>obtain ⟨t,rfl⟩:=rx; exact SeqAt.EqAt.bool_int a b t
   | str b=>obtain ⟨t,rfl⟩:=rx; exact SeqAt.EqAt.bool_str a b t
   | _=>exact absurd (show false=true from fx) Bool.false_ne_true
 | int a=>
   obtain ⟨t',rfl⟩:=ry
   cases x with
   | non=>cases rx; exact SeqAt.EqAt.int_none a t'
   | bl b=>cases rx; exact SeqAt.EqAt.int_bool a t' b
   | int b=>obtain ⟨t,rfl⟩:=rx; exact SeqAt.EqAt.int_int a t' b t
   | str b=>obtain ⟨t,rfl⟩:=rx; exact SeqAt.EqAt.int_str a t' b t
   | _=>exact absurd (show false=true from fx) Bool.false_ne_true
 | str a=>
   obtain ⟨t',rfl⟩:=ry
   cases x with
   | non=>cases rx; exact SeqAt.EqAt.str_none a t'
   | bl b=>cases rx; exact SeqAt.EqAt.str_bool a t' b
   | int b=>obtain ⟨t,rfl⟩:=rx; exact SeqAt.EqAt.str_int a t' b t
   | str b=>obtain ⟨t,rfl⟩:=rx; exact SeqAt.EqAt.str_str a t' b t
   | _=>exact absurd (show false=true from fx) Bool.false_ne_true
 | _=>exact absurd (show false=true from fy) Bool.false_ne_true
noncomputable def eqU (x:V) (u:Value):Bool:=match u with
 | .none=>eqV .non x
 | .bool b=>eqV (.bl b) x
 | .int i _=>eqV (.int i) x
 | .str z _=>eqV (.str z) x
 | _=>false
theorem zk3 {x y:V} {u:Value} (r:RelV y u) (f:flatV y=true):eqU x u=eqV y x:=by
 cases y with
 | non=>cases r; rfl
 | bl b=>cases r; rfl
 | int i=>obtain ⟨t,rfl⟩:=r; rfl
 | str z=>obtain ⟨t,rfl⟩:=r; rfl
 | _=>exact absurd (show false=true from f) Bool.false_ne_true
theorem zgb {x:V}:∀ {xs:List V} {us:List Value},Vals xs us->xs.all flatV=true->us.any (eqU x)=xs.any fun y=>eqV y x
 | _,_,.nil,_=>rfl
 | y :: xs,u :: us,.cons r t,f=>by
   rw [List.all_cons,Bool.and_eq_true] at f
   rw [List.any_cons,List.any_cons,zk3 r f.1,zgb t f.2]
theorem zeQ {A:Around} {s:Shared} {x:V} {v:Value} (rx:RelV x v) (fx:flatV x=true):∀ {xs:List V} {us:List Value},Vals xs us->xs.all flatV=true->∀ u∈us,SeqAt.EqAt A s u v (eqU x u)
 | _,_,.nil,_=>fun u hu=>by cases hu
 | y :: xs,u :: us,.cons r t,f=>fun u' hu=>by
   rw [List.all_cons,Bool.and_eq_true] at f
   rcases List.mem_cons.mp hu with rfl | hu
   ·rw [zk3 r f.1]; exact znU r rx f.1 fx
   ·exact zeQ rx fx t f.2 u' hu
noncomputable def inV (x:V) (xs:List V):Bool:=xs.any fun y=>eqV y x
noncomputable def rIn (K:PySem.W.Frag) (neg:Bool):R2:=fun x y H Q=>∃ p xs,y=.ref p /\ (SqL K H p xs \/ SqT K H p xs) /\ flatV x=true /\ xs.all flatV=true /\ Q (.bl (if neg then !inV x xs else inV x xs)) H
theorem zh1:OpR X (compareOp .In) (rIn X.K false):=by
 intro pins s σ H x y v u Q I rx ry h
 obtain ⟨p,xs,rfl,hq,fx,fs,q⟩:=h
 cases ry
 rcases hq with hq | hq
 ·obtain ⟨its,r,pl,hz⟩:=I.list hq
  refine SeqAt.in_listAt (eqU x) pl.isList (fun w hw=>zeQ rx fx r fs w (by simpa using hw)) ⟨.bl _,H,I,rfl,?_⟩
  rw [show its.toArray.any (eqU x)=its.any (eqU x) by simp,zgb r fs]
  exact q
 ·obtain ⟨its,r,pl,hz⟩:=I.tuple hq
  refine SeqAt.in_tupleAt (eqU x) pl (fun w hw=>zeQ rx fx r fs w (by simpa using hw)) ⟨.bl _,H,I,rfl,?_⟩
  rw [show its.toArray.any (eqU x)=its.any (eqU x) by simp,zgb r fs]
  exact q
theorem zfS:CallR X (.builtin "len") (fun xs H Q=>∃ p ys,xs=[.ref p] /\ (SqL X.K H p ys \/ SqT X.K H p ys) /\ Q (.int ys.length) H):=by
 intro pins s σ H xs us Q I r h
 obtain ⟨p,ys,rfl,hq,q⟩:=h
 obtain ⟨u,rfl,rx⟩:=vals1 r
 cases rx
 have hn:=line63
 rcases hq with hq | hq
 ·obtain ⟨its,r',pl,hz⟩:=I.list hq
  have hlen:=r'.length
  exact Calls.call_len_list pl.isList (by simp only [List.size_toArray] <;> omega) ⟨.int ys.length,H,I.tok _,⟨s.toks + 1,by rw [List.size_toArray,hlen]⟩,q⟩
 ·obtain ⟨its,r',pl,hz⟩:=I.tuple hq
  have hlen:=r'.length
  exact len_tuple pl (by simp only [List.size_toArray] <;> omega) ⟨.int ys.length,H,I.tok _,⟨s.toks + 1,by rw [List.size_toArray,hlen]⟩,q⟩
theorem ze0:CallR X (.builtin "len") (fun xs H Q=>∃ z,xs=[.str z] /\ z.length<=sizeLine /\ Q (.int z.length) H):=by
 intro pins s σ H xs us Q I r h
 obtain ⟨z,rfl,hz,q⟩:=h
 obtain ⟨u,rfl,t,rfl⟩:=vals1 r
 have hn:=line63
 exact len_str (by omega) ⟨.int z.length,H,I.tok _,⟨_,rfl⟩,q⟩
theorem CallR.or {f:Value} {r r':List V->Hp->VK->Prop} (h:CallR X f r) (h':CallR X f r'):CallR X f (fun xs H Q=>r xs H Q \/ r' xs H Q):=by
 intro pins s σ H xs us Q I rs q
 rcases q with q | q
 ·exact h pins s σ H xs us Q I rs q
 ·exact h' pins s σ H xs us Q I rs q
theorem zfb:CallR X (.type "list") (fun xs H Q=>∃ p ys,xs=[.ref p] /\ (SqL X.K H p ys \/ SqT X.K H p ys) /\ ∀ l,H l=none->Q (.ref l) (upd H l (.lst ys))):=by
 intro pins s σ H xs us Q I r h
 obtain ⟨p,ys,rfl,hq,q⟩:=h
 obtain ⟨u,rfl,rx⟩:=vals1 r
 cases rx
 have fin:∀ (its:List Value),Vals ys its->ys.length<=sizeLine->∀ (h':Heap) (c':Nat),(∀ b o',s.heap.get? b=some o'->h'.get? b=some o')->
   h'.get? s.heap.objs.size=some { cls:=.type "list",dict:=none,data:=.seq its.toArray c',slots:=#[] }->EP X pins σ Q (.ref s.heap.objs.size) { s with heap:=h' }:=fun its r' hz h' c' kp e=>
  ⟨.ref s.heap.objs.size,_,I.laid (t':=s.toks) kp (Nat.le_refl _) (show ObjOk X.prog X.w _ h' _ (.lst ys) from ⟨hz,its,c',r',e⟩),rfl,q _ (I.hok.fresh (Nat.le_refl _))⟩
 rcases hq with hq | hq
 ·obtain ⟨its,r',pl,hz⟩:=I.list hq
  have hlen:=r'.length
  obtain ⟨o,ho,hc,n,hd⟩:=pl.isList
  exact call_list_seq p (.inl rfl) ho hc hd (fun h' c' kp e=>fin its r' hz h' c' kp e) (by simp only [List.size_toArray] <;> omega)
 ·obtain ⟨its,r',pl,hz⟩:=I.tuple hq
  have hlen:=r'.length
  obtain ⟨o,ho,hc,n,hd⟩:=pl
  exact call_list_seq p (.inr rfl) ho hc hd (fun h' c' kp e=>fin its r' hz h' c' kp e) (by simp only [List.size_toArray] <;> omega)
theorem zcl:CallR X (.type "tuple") (fun xs H Q=>∃ p ys,xs=[.ref p] /\ ((SqL X.K H p ys /\ ∀ l,H l=none->Q (.ref l) (upd H l (.tup ys))) \/ (SqT X.K H p ys /\ Q (.ref p) H))):=by
 intro pins s σ H xs us Q I r h
 obtain ⟨p,ys,rfl,h⟩:=h
 obtain ⟨u,rfl,rx⟩:=vals1 r
 cases rx
 rcases h with ⟨hq,q⟩ | ⟨hq,q⟩
 ·obtain ⟨its,r',pl,hz⟩:=I.list hq
  have hlen:=r'.length
  refine call_tuple_list pl.isList (fun h' kp=>?_) (by simp only [List.size_toArray] <;> omega)
  have I1:Inv X pins σ H { s with heap:=h' }:=I.kept (t':=s.toks) kp
  have I2:Inv X pins σ (upd H h'.objs.size (.tup ys)) { s with heap:=h'.push { cls:=.type "tuple",data:=.seq its.toArray } }:=
   I1.laid (t':=s.toks) (fun b o e=>Heap.get?_push_of_some _ e) (Nat.le_refl _) (show ObjOk X.prog X.w _ _ _ (.tup ys) from ⟨hz,its,r',IsTup.new _ _⟩)
  exact ⟨.ref h'.objs.size,_,I2,rfl,q _ (I1.hok.fresh (Nat.le_refl _))⟩
 ·obtain ⟨its,r',pl,hz⟩:=I.tuple hq
  exact call_tuple_same pl ⟨.ref p,H,I,rfl,q⟩
noncomputable def tyV (K:PySem.W.Frag) (T:String) (x:V) (H:Hp):Prop:=match x with
 | .str _=>T="str"
 | .int _=>T="int"
 | .ref p=>(T="list" /\ ∃ xs,SqL K H p xs) \/ (T="tuple" /\ ∃ o,K.lookup p=some o /\ o.cls=.type "tuple" /\ o.dict=none) \/
   (T="dict" /\ ((∃ kvs,H p=some (.dK kvs)) \/ ∃ kvs,H p=some (.dT kvs))) \/ (T="set" /\ ∃ S n,H p=some (.set S n))
 | _=>False
theorem zlb {pins:List (Addr×Obj)} {σ:St} {H:Hp} {s:Shared} {T:String} {x:V} {v:Value} (I:Inv X pins σ H s) (r:RelV x v) (ty:tyV X.K T x H):
  s.TypeIs v T /\ ∀ a,v=.ref a->∃ ob,s.heap.get? a=some ob /\ ob.dict=none:=by
 cases x with
 | str z=>
   obtain ⟨t,rfl⟩:=r
   cases (show T="str" from ty)
   exact ⟨typeIs_str s z t,fun _ e=>nomatch e⟩
 | int i=>
   obtain ⟨t,rfl⟩:=r
   cases (show T="int" from ty)
   exact ⟨typeIs_int s i t,fun _ e=>nomatch e⟩
 | ref p=>
   cases r
   rcases ty with ⟨rfl,xs,hq⟩ | ⟨rfl,o,hk,hc,hd⟩ | ⟨rfl,hk⟩ | ⟨rfl,S,n,hk⟩
   ·obtain ⟨its,_,pl,_⟩:=I.list hq
    refine ⟨pl.isList.typeIs,fun a e=>?_⟩
    cases e
    obtain ⟨o,n,e,c,hd,_⟩:=pl
    exact ⟨o,e,hd⟩
   ·refine ⟨⟨o,I.kIn p o hk,hc⟩,fun a e=>?_⟩
    cases e
    exact ⟨o,I.kIn _ o hk,hd⟩
   ·have z:∃ o,s.heap.get? p=some o /\ o.ExactDict:=by
     rcases hk with ⟨kvs,hk⟩ | ⟨kvs,hk⟩
     ·obtain ⟨_,_,_,_,o,_,_,e,ex,_⟩:=I.hok p _ hk
      exact ⟨o,e,ex⟩
     ·obtain ⟨_,_,_,_,o,_,_,e,ex,_⟩:=I.hok p _ hk
      exact ⟨o,e,ex⟩
    obtain ⟨o,e,ex⟩:=z
    refine ⟨⟨o,e,ex.1⟩,fun a e2=>?_⟩
    cases e2
    exact ⟨o,e,ex.2.1⟩
   ·obtain ⟨o,_,_,_,e,ex,_⟩:=I.hok p _ hk
    refine ⟨⟨o,e,ex.1⟩,fun a e2=>?_⟩
    cases e2
    exact ⟨o,e,ex.2.1⟩
 | _=>exact False.elim ty
noncomputable def tBM0 (K:PySem.W.Frag) (T:String) (r:V->List V->Hp->VK->Prop) (to:TE):TE:=fun σ H Q=>to σ H fun x H1=>tyV K T x H1 /\ r x [] H1 Q
noncomputable def tBM (K:PySem.W.Frag) (T:String) (r:V->List V->Hp->VK->Prop) (to:TE) (t:TA):TE:=fun σ H Q=>to σ H fun x H1=>tyV K T x H1 /\ t σ H1 fun xs H2=>r x xs H2 Q
variable {o e:Expr} {es:List Expr} {to:TE} {t:TA} {name:Str} {apos cpos:Pos} {T id:String} {r:V->List V->Hp->VK->Prop}
theorem zn9 (pa:PlainAttrs T) (slot:Slot T name id) (hty:typeOf (.builtin id)=pure (.type "method_descriptor")) (hm:MtR X id r) (ho:PE X o to)
  (hbase:attributeBase o name X.env (eval o X.env)=eval o X.env:=by rfl) (hline:(apos.endLine == cpos.line)=true:=by rfl):PE X (.Call (.Attribute o name apos) [] [] cpos) (tBM0 X.K T r to):=by
 intro pins s σ H Q I h
 refine wpAny_Call_method0_late hbase hline (thn (ho pins s σ H _ I h) fun v s1 ⟨x,H1,I1,r1,ty,q1⟩=>?_)
 obtain ⟨h1,h2⟩:=zlb I1 r1 ty
 exact ⟨T,id,pa,slot,hty,h1,h2,Calls.callWith_builtin rfl (PySem.evalArgs_none (hm pins s1 σ H1 x [] v [] Q I1 r1 .nil q1))⟩
theorem zf6 (pa:PlainAttrs T) (slot:Slot T name id) (hty:typeOf (.builtin id)=pure (.type "method_descriptor")) (hm:MtR X id r) (ho:PE X o to) (ha:PA X (e :: es) t)
  (hbase:attributeBase o name X.env (eval o X.env)=eval o X.env:=by rfl)
  (hfew:((backTo cpos (starEach (e :: es) X.env)).all (fun x=> !x.1) && (backToKw cpos (keywordEach [] X.env)).all (fun x=>x.1.isSome)
   && decide ((e :: es).length + ([]:List Keyword).length + (if ([]:List Keyword).isEmpty then 0 else 1) < 30))=true:=by rfl)
  (hline:(apos.endLine == cpos.line)=true:=by rfl) (hs:starEach (e :: es) X.env=(false,eval e X.env) :: starEach es X.env:=by rfl) (hplain:(backTo cpos (starEach es X.env)).any (·.1)=false:=by rfl):
  PE X (.Call (.Attribute o name apos) (e :: es) [] cpos) (tBM X.K T r to t):=by
 intro pins s σ H Q I h
 refine wpAny_Call_method_late hbase hfew hline rfl (thn (ho pins s σ H _ I h) fun v s1 ⟨x,H1,I1,r1,ty,q1⟩=>?_)
 obtain ⟨h1,h2⟩:=zlb I1 r1 ty
 refine ⟨T,id,pa,slot,hty,h1,h2,?_⟩
 have hA:=ha cpos pins s1 σ H1 _ I1 q1
 rw [hs] at hA ⊢
 refine Calls.callWith_builtin (by show (false || (backTo cpos (starEach es X.env)).any (·.1))=false; rw [hplain] <;> rfl) (Calls.evalArgs_plain ?_)
 exact thn hA fun us s2 ⟨vs,H2,I2,r2,q2⟩=>hm pins s2 σ H2 x vs v us Q I2 r1 r2 q2
/- xs.append(e),list.index on a module's tuple .. are MtR facts of 06m -/
end
end L2
namespace L2
open PySem PySem.Spec PyProof.Rows
noncomputable def MtM (X:Cx) (id:String) (r:V->List V->Hp->VK->Prop):Prop:=
 ∀ (pins:List (Addr×Obj)) (s:Shared) (σ:St) (H:Hp) (x:V) (xs:List V) (v:Value) (us:List Value) (Q:VK),Inv X pins σ H s->RelV x v->Vals xs us->r x xs H Q->
   wpAny (model X.prog X.w) X.A (call (.builtin id) (v :: us)) (EP X pins σ Q) X.xe s
theorem Vals.one:∀ {x:V} {us:List Value},Vals [x] us->∃ u,us=[u] /\ RelV x u
 | _,_,.cons r .nil=>⟨_,rfl,r⟩
section
variable {X:Cx} {pins:List (Addr×Obj)} {σ:St} {H:Hp} {s:Shared} {l b:Addr} {xs ys zs:List V}
theorem Inv.lset {its its':List Value} {n:Nat} {f:Array Value->Array Value} {t':Nat} (I:Inv X pins σ H s) (hH:H l=some (.lst xs))
  (e:s.heap.get? l=some { cls:=.type "list",data:=.seq its.toArray n }) (hf:f its.toArray=its'.toArray) (hv:Vals ys its') (hz:ys.length<=sizeLine):
  Inv X pins σ (upd H l (.lst ys)) { s with heap:=s.heap.update l (Obj.mapSeq f),toks:=t' }:=by
 have q:=PySem.IsL.update e f
 rw [hf] at q
 refine I.write (x:=l) (e:=l) (by rw [hH]; exact trivial) (.inl rfl) (fun b' u hb hu=>(Heap.get?_update_other s.heap (Obj.mapSeq f) (Ne.symm hb)).trans hu) ⟨_,q⟩ ?_
 exact ⟨hz,its',_,hv,q⟩
theorem Inv.lnew {its:List Value} {t':Nat} (I:Inv X pins σ H s) (hv:Vals ys its) (hz:ys.length<=sizeLine):
  Inv X pins σ (upd H s.heap.objs.size (.lst ys)) { s with heap:=s.heap.push { cls:=.type "list",data:=.seq its.toArray },toks:=t' }:=
 I.laid (fun _ _ q=>Heap.get?_push_of_some _ q) (Nat.le_refl _) ⟨hz,its,0,hv,Heap.get?_push_size _ rfl⟩
theorem Inv.fresh (I:Inv X pins σ H s):H s.heap.objs.size=none:=I.hok.fresh (Nat.le_refl _)
theorem Inv.lstM (I:Inv X pins σ H s) (hH:H l=some (.lst xs)):xs.length<=sizeLine /\ ∃ (its:List Value) (n:Nat),Vals xs its /\ xs.length=its.length /\ s.heap.get? l=some { cls:=.type "list",data:=.seq its.toArray n }:=by
 obtain ⟨z,its,n,r,e⟩:=I.hok l _ hH
 exact ⟨z,its,n,r,r.length,e⟩
theorem notLongL {n:Nat} (h:n<=sizeLine):Builtin.List.listTooLong n=false:=by
 unfold Builtin.List.listTooLong
 exact decide_eq_false (by omega)
end
section
variable {X:Cx}
noncomputable def rAppend:V->List V->Hp->VK->Prop:=fun x vs H Q=>∃ l xs y,x=.ref l /\ vs=[y] /\ H l=some (.lst xs) /\ xs.length < sizeLine /\ Q .non (upd H l (.lst (xs ++ [y])))
theorem zcq:MtM X "list.append" rAppend:=by
 intro pins s σ H x vs v us Q I rx rv h
 obtain ⟨l,xs,y,rfl,rfl,hH,hz,q⟩:=h
 cases rx
 obtain ⟨u,rfl,ru⟩:=rv.one
 obtain ⟨z,its,n,r,hl,e⟩:=I.lstM hH
 refine call_meets F.slot_list_append ⟨_,e,rfl⟩ F.entry_list_append (F.args_list_append_2 _ _) (PySem.list_append l its.toArray n u (by rw [List.size_toArray]; omega)) ⟨e,?_⟩
 refine ⟨.non,_,I.lset (its':=its ++ [u]) hH e (by simp) (r.append (.cons ru .nil)) ?_,rfl,q⟩
 rw [List.length_append,List.length_singleton]
 omega
noncomputable def rExtend:V->List V->Hp->VK->Prop:=fun x vs H Q=>∃ l b xs zs,x=.ref l /\ vs=[.ref b] /\ H l=some (.lst xs) /\ H b=some (.lst zs) /\ xs.length + zs.length<=sizeLine /\ Q .non (upd H l (.lst (xs ++ zs)))
theorem zfE:MtM X "list.extend" rExtend:=by
 intro pins s σ H x vs v us Q I rx rv h
 obtain ⟨l,b,xs,zs,rfl,rfl,hH,hB,hz,q⟩:=h
 cases rx
 obtain ⟨u,rfl,ru⟩:=rv.one
 cases ru
 obtain ⟨z,its,n,r,hl,e⟩:=I.lstM hH
 obtain ⟨z2,its2,n2,r2,hl2,e2⟩:=I.lstM hB
 have hsz:its.toArray.size + its2.toArray.size<=sizeLine:=by rw [List.size_toArray,List.size_toArray]; omega
 have hlong:¬ (!its.toArray.isEmpty && Builtin.List.listTooLong (its.toArray.size + its2.toArray.size))=true:=by
  rw [notLongL hsz,Bool.and_false]
  exact Bool.false_ne_true
 refine call_meets F.slot_list_extend ⟨_,e,rfl⟩ F.entry_list_extend (F.args_list_extend_2 _ _)
  (AutoSeq1.list_extend_list_list_0 l its.toArray n b its2.toArray n2 hlong (by rw [List.size_toArray]; omega) (by omega)) ⟨e,e2,?_⟩
 refine ⟨.non,_,I.lset (its':=its ++ its2) hH e (by simp) (r.append r2) ?_,rfl,q⟩
 rw [List.length_append]
 omega
end
section
variable {prog:Program} {w:World} {A:Around} {E:Value->Shared->Prop} {s:Shared}
end
section
variable {X:Cx}
end
end L2
namespace Att
open PySem PySem.W PySem.Calls PyProof.Rows
theorem zdn {P:Params} {h:Heap}:∀ (ns:List Int) (vs:List Value),WellAll P h vs (ns.map WData.int)->IntsAre vs ns:=by
 intro ns
 induction ns with
 | nil=>
   intro vs w
   rw [List.map_nil] at w
   cases w
   exact .nil
 | cons n ns ih=>
   intro vs w
   rw [List.map_cons] at w
   cases w with
   | cons a b=>
     cases a
     exact .cons _ _ (ih _ b)
theorem zh6 {l:OpenLaw} {n:Nat} (hn:l.most=some n) {P:Params} {h:Heap} {args:List WData} {vals:List Value}
  (hpre:l.row.toRowW.claim.pre args=true) (hwl:WellAll P h vals args):
  ∃ a vs ns,vals=[Value.ref a] /\ args=[WData.list (ns.map WData.int)] /\ h.get? a=some { cls:=.type "list",data:=.seq vs.toArray } /\ IntsAre vs ns /\ ns.length<=n:=by
 have hsh:WShape.hasAll [] args [.list .int]=true:=(pre_splitW hpre).1
 have hc:l.pre.holds [] { args:=args }=true:=(pre_splitW hpre).2
 obtain ⟨d,r,rfl,h1,h2⟩:=hasAllW_cons hsh
 obtain rfl:=hasAllW_nil h2
 obtain ⟨xs,rfl,h3⟩:=hasW_list h1
 obtain ⟨ns,rfl⟩:=items_int h3
 have hlen:ns.length<=n:=by
  unfold OpenLaw.pre at hc
  have h4:(WTm.not (.lt (.lit (.int (n:Int))) (.len (.arg 0)))).holds [] { args:=[.list (ns.map .int)] }=true:=by
   have h4:=(holds_andW hc).1
   rw [hn] at h4
   exact h4
  have h5:=condW_of h4 (w_not (w_lt w_lit (w_len_list (w_arg rfl))))
  rw [List.length_map] at h5
  refine Nat.le_of_not_lt fun q=>?_
  have q':(n:Int) < ((ns.length:Nat):Int):=by omega
  first
   | (rw [decide_eq_true q'] at h5; exact absurd h5 (by decide))
   | (simp at h5; omega)
 cases hwl with
 | cons w1 w2=>
   cases w2
   cases w1 with
   | list ho hall=>exact ⟨_,_,ns,rfl,rfl,ho,zdn ns _ hall,hlen⟩
theorem zik (l:OpenLaw) (args:List WData):l.row.toRowW.claim.post args (.bool true) args=true:=
 postW_of (r:=l.row.toRowW) (X:=(true == true))
  (show WShape.has [] (.bool true) .bool=true by first | rfl | decide | simp [WShape.has,WShape.arms,WShape.armsAll])
  (show (WTm.eq .res (.lit (.bool true))).value [] { args:=args,res:=some (.bool true),after:=args }=some (.bool (true == true)) from w_eq_bool (w_res rfl) w_lit) rfl
theorem zf2 {l:OpenLaw} {n:Nat} {q:Program} {loose:List Str} {XP:(Str->Option Value)->Heap->Prop} {YP:World->Heap->Prop} {d:DefRec}
  (hn:l.most=some n) (hdf:d.params.defaults=[])
  (call:∀ (w:World) (s₀ s₁:Shared) (mg mb:Str->Option Value) (fa:Addr) (o:Obj) (pm cd doc:Value) (a:Addr) (vs:List Value) (ns:List Int),
   Ground q loose [] XP w s₀ mg mb s₁.heap->YP w s₁.heap->
   s₁.heap.get? fa=some o->o.data=.func (docDef d.name d.params d.body d.scope pm cd doc)->s₁.heap.CodeRec cd d.name->mg d.name=some (.ref fa)->
   s₁.heap.get? a=some { cls:=.type "list",data:=.seq vs.toArray }->IntsAre vs ns->ns.length<=n->s₁.gens=#[]->
   codeAny (model l.prog w) callerA (.call (.ref fa) ⟨[.ref a],[]⟩) (fun r s'=>r=.ok (.ret (.bool true)) /\ OldK s₁.heap s'.heap /\ s'.os=s₁.os /\ AllBare s'.gens) s₁):
  WalkO q loose XP YP l.row.toRowW d [] (fun f vs=>PySem.call f vs):=by
 intro w s₀ s₁ mg mb G Y fa o pm cd doc dV kV ho hd hcd hD hmg hg args vals as hpre hlay hrd hwl hlo
 obtain rfl:dV=.none:=Dflts.none hD hdf
 obtain rfl:kV=.none:=Dflts.noKw hD
 obtain ⟨a,vs,ns,rfl,rfl,hobj,hints,hlen⟩:=zh6 hn hpre hwl
 refine enter_call (codeAny_mono (call w s₀ s₁ mg mb fa o pm cd doc a vs ns G Y ho (fd_plain hd) hcd hmg hobj hints hlen hg) fun r s' hq=>?_)
 obtain ⟨rfl,h2,h3,h4⟩:=hq
 exact ⟨.inl ⟨.bool true,.bool true,[],rfl,fun _=>rfl,.bool true,zik l _,fun _=>⟨List.Pairwise.nil,fun _ hm=>(nomatch hm)⟩⟩,h2,h3,h4⟩
section
variable {prog:Program} {w:World} {A:Around} {E:Value->Shared->Prop} {s:Shared} {K:Frag}
end
end Att
namespace L2
open PySem PySem.Spec PyProof.Rows
theorem zeW:∀ {vs:List Value} {ns:List Int},IntsAre vs ns->Vals (ns.map V.int) vs
 | _,_,.nil=>.nil
 | _,_,.cons n t h=>.cons ⟨t,rfl⟩ (zeW h)
noncomputable def Only (H:Hp):Prop:=∀ b,H b=none \/ ∃ o xs,H b=some (.frz o (.lst xs))
noncomputable def LsD (K:PySem.W.Frag) (H:Hp) (a:Addr) (xs:List V):Prop:=
 Rd H a (.lst xs) \/ ∃ (its:List Value) (n:Nat),K.lookup a=some { cls:=.type "list",data:=.seq its.toArray n } /\ its.length<=sizeLine /\ Vals xs its
end L2
namespace L2
open PySem PySem.Spec PyProof.Rows
end L2
namespace L2
open PySem PySem.Spec PyProof.Rows
noncomputable abbrev CX0:CXT:=fun _ _ _ _ _ _=>False
noncomputable abbrev E0:XK:=fun _ _ _=>False
theorem pass0 {X:Cx}:Passes CX0 X E0:=fun _ _ _ _ _ _ _ h=>h.elim
structure Fun (K:PySem.W.Frag) (x qual:Str) (st:Stmt) (f:Addr) (fd:FuncData):Prop where
 ex:∃ (oc:Value) (od:Option Addr) (kV doc pm:Value) (an:Option Addr) (cdv ct:Value) (osl:Array (Option Value)),
  fd=PySem.W.fnOf x qual (defArgs st) (defBody st) (defScope st) .none kV doc pm an cdv ct /\ K.lookup f=some ⟨oc,od,.func fd,osl⟩ /\ PySem.W.codeIn K cdv qual=true
 kp:PySem.W.keepIn K (.ref f)=true
section
variable {P:Program} {w:World} {K:PySem.W.Frag} {mg:Str->Option Value} {base:Heap}
theorem Fun.ok {x qual:Str} {st:Stmt} {f:Addr} {fd:FuncData} {N ps:List Str} {k:Nat} {sp:Sp} (F:Fun K x qual st f fd) (S:FnScope N ps (defScope st)) (len:∀ vs H Q E,sp vs H Q E->vs.length=ps.length)
  (hbody:∀ (cdv:Value) (A:Around) (outer:List Env) (s:Shared) (H:Hp) (vs:List V) (Q:VK) (E:XK),Room k (A.deeper (envOfC qual (defScope st) s.heap.objs.size f cdv))->sp vs H Q E->
   ∃ t,PSs (cxOf CX0 P w K mg base N qual (defScope st) f cdv A outer s H E).nox (defBody st) t /\ t { nx:=fun _ H'=>Q .non H',rt:=Q } (start N vs) H):FnOk P w K mg base CX0 (k + 1) f fd ps sp:=by
 obtain ⟨oc,od,kV,doc,pm,an,cdv,ct,osl,rfl,lk,hcd⟩:=F.ex
 refine zmi lk hcd S len fun A outer s H vs Q E hr hsp=>?_
 obtain ⟨t,h,q⟩:=hbody cdv A outer s H vs Q E hr hsp
 exact ⟨t,h.nox,q⟩
theorem Fun.binds {x qual:Str} {st:Stmt} {f:Addr} {fd:FuncData} {ps:List Str} (F:Fun K x qual st f fd)
  (h:∀ (kV doc pm:Value) (an:Option Addr) (cdv ct:Value) (us:List Value),us.length=ps.length->bindArgs (PySem.W.fnOf x qual (defArgs st) (defBody st) (defScope st) .none kV doc pm an cdv ct) ⟨us,[]⟩=pure (ps.zip us)):Binds K fd ps []:=by
 obtain ⟨oc,od,kV,doc,pm,an,cdv,ct,osl,rfl,lk,hcd⟩:=F.ex
 exact .all (h kV doc pm an cdv ct)
theorem zo {x qual:Str} {st:Stmt} {f:Addr} {oc:Value} {od an:Option Addr} {osl:Array (Option Value)} {kV doc pm cdv ct:Value} (l:K.lookup f=some ⟨oc,od,.func (PySem.W.fnOf x qual (defArgs st) (defBody st) (defScope st) .none kV doc pm an cdv ct),osl⟩)
  (c:PySem.W.codeIn K cdv qual=true) (k:PySem.W.keepIn K (.ref f)=true):Fun K x qual st f (PySem.W.fnOf x qual (defArgs st) (defBody st) (defScope st) .none kV doc pm an cdv ct):=⟨⟨oc,od,kV,doc,pm,an,cdv,ct,osl,rfl,l,c⟩,k⟩
end
noncomputable def visB:Option NameKind->Bool
 | some .local=>true
 | some .cell=>true
 | some .free=>true
 | _=>false
theorem zk2 {sc:Scope} {x:Str} (h:visB (sc.names.lookup x)=true):Vis sc x:=by
 unfold Vis
 cases e:sc.names.lookup x with
 | none=>rw [e] at h; cases h
 | some k=>
   rw [e] at h
   cases k <;> first | exact .inl rfl | exact .inr (.inl rfl) | exact .inr (.inr rfl) | cases h
section
variable {X:Cx}
theorem pv (i:Nat) {x:Str} {pos:Pos} (hN:X.N[i]?=some x:=by rfl) (hv:visB (X.env.scope.names.lookup x)=true:=by rfl) (hd:(x == ("__debug__":Str))=false:=by decide)
  (hcd:(x == ("__classdict__":Str))=false:=by decide):PE X (.Name x pos) (tVar i):=zla hN (zk2 hv) hd hcd
end
noncomputable def Same (H H':Hp):Prop:=∀ b o,H b=some o->H' b=some o
theorem Same.refl (H:Hp):Same H H:=fun _ _ h=>h
theorem Same.trans {H H1 H2:Hp} (a:Same H H1) (b:Same H1 H2):Same H H2:=fun c o h=>b c o (a c o h)
theorem Same.free {H H':Hp} (e:Same H H') {l:Addr} (h:H' l=Option.none):H l=Option.none:=by
 cases q:H l with
 | none=>rfl
 | some o=>
   rw [e l o q] at h
   cases h
end L2
namespace L2
open PySem PySem.Spec PyProof.Rows
section
variable {κ:Type} [DecidableEq κ]
noncomputable def valV (kvs:List (κ×V)) (k:κ):Option V:=(kvs.find? fun kv=>decide (kv.1=k)).map (·.2)
noncomputable def putK (kvs:List (κ×V)) (k:κ) (v:V):List (κ×V):=
 if (kvs.any fun kv=>decide (kv.1=k))=true then kvs.map (fun kv=>if kv.1=k then (kv.1,v) else kv) else kvs ++ [(k,v)]
theorem zc0 {p:κ×V} {r:List (κ×V)} {k:κ} (e:p.1=k):valV (p :: r) k=some p.2:=by simp [valV,List.find?_cons,e]
theorem zc2 {p:κ×V} {r:List (κ×V)} {k:κ} (e:¬ p.1=k):valV (p :: r) k=valV r k:=by simp [valV,List.find?_cons,e]
theorem zeE (k:κ):∀ kvs:List (κ×V),(kvs.any fun kv=>decide (kv.1=k))=(valV kvs k).isSome
 | []=>rfl
 | p :: r=>by
   rw [List.any_cons]
   by_cases e:p.1=k
   ·simp only [zc0 e,decide_eq_true e,Bool.true_or,Option.isSome_some]
   ·rw [zc2 e,decide_eq_false e,Bool.false_or]; exact zeE k r
theorem zc8 (kvs:List (κ×V)) (k:κ) (v:V):(putK kvs k v).length<=kvs.length + 1:=by
 unfold putK
 split
 ·rw [List.length_map]; omega
 ·rw [List.length_append,List.length_cons,List.length_nil]; omega
theorem RelO.isSome_eq {o:Option V} {u:Option Value} (r:RelO o u):o.isSome=u.isSome:=by
 cases o with
 | none=>cases u with
   | none=>rfl
   | some _=>exact (show False from r).elim
 | some _=>cases u with
   | none=>exact (show False from r).elim
   | some _=>rfl
theorem RelO.getD {o:Option V} {u:Option Value} {d:V} {d':Value} (r:RelO o u) (rd:RelV d d'):RelV (o.getD d) (u.getD d'):=by
 cases o with
 | none=>cases u with
   | none=>exact rd
   | some _=>exact (show False from r).elim
 | some _=>cases u with
   | none=>exact (show False from r).elim
   | some _=>exact r
theorem KV.val {kvs:List (κ×V)} {vs:List (κ×Value)} (r:KV kvs vs) (k:κ):RelO (valV kvs k) (valueAt vs k):=by
 unfold KV at r
 induction r with
 | nil=>exact True.intro
 | @cons p q ps qs h t ih=>
   obtain ⟨h1,h2⟩:=h
   by_cases e:p.1=k
   ·have e':q.1=k:=h1.symm.trans e
    have b:valueAt (q :: qs) k=some q.2:=by simp [valueAt,List.find?_cons,e']
    rw [zc0 e,b]; exact h2
   ·have e':¬ q.1=k:=fun z=>e (h1.trans z)
    have b:valueAt (q :: qs) k=valueAt qs k:=by simp [valueAt,List.find?_cons,e']
    rw [zc2 e,b]; exact ih
theorem KV.any {kvs:List (κ×V)} {vs:List (κ×Value)} (r:KV kvs vs) (k:κ):(kvs.any fun kv=>decide (kv.1=k))=vs.any fun kv=>decide (kv.1=k):=by
 unfold KV at r
 induction r with
 | nil=>rfl
 | cons h t ih=>rw [List.any_cons,List.any_cons,ih,h.1]
theorem KV.repl {kvs:List (κ×V)} {vs:List (κ×Value)} (r:KV kvs vs) (k:κ) {y:V} {u:Value} (ry:RelV y u):
  KV (kvs.map fun kv=>if kv.1=k then (kv.1,y) else kv) (vs.map fun kv=>if kv.1=k then (kv.1,u) else kv):=by
 unfold KV at r ⊢
 induction r with
 | nil=>exact .nil
 | @cons p q ps qs h t ih=>
   rw [List.map_cons,List.map_cons]
   refine .cons ?_ ih
   obtain ⟨h1,h2⟩:=h
   by_cases e:p.1=k
   ·rw [if_pos e,if_pos (h1.symm.trans e)]; exact ⟨h1,ry⟩
   ·rw [if_neg e,if_neg (fun z=>e (h1.trans z))]; exact ⟨h1,h2⟩
theorem KV.put {kvs:List (κ×V)} {vs:List (κ×Value)} (r:KV kvs vs) (k:κ) {y:V} {u:Value} (ry:RelV y u):KV (putK kvs k y) (stored vs k u):=by
 unfold putK stored
 rw [r.any k]
 by_cases e:(vs.any fun kv=>decide (kv.1=k))=true
 ·rw [if_pos e,if_pos e]; exact r.repl k ry
 ·rw [if_neg e,if_neg e]; exact Paired.snoc r ⟨rfl,ry⟩
theorem KV.length {kvs:List (κ×V)} {vs:List (κ×Value)} (r:KV kvs vs):kvs.length=vs.length:=Paired.length r
end
theorem zjH {P:Program} {w:World} {k:Key} {u:Value} (r:RelV (kV k) u):(mixKind P w).is k u=true:=by
 cases k with
 | inl i=>obtain ⟨t,e⟩:=(show ∃ t,u=Value.int i t from r); subst e; exact zf9 P w i t
 | inr x=>obtain ⟨t,e⟩:=(show ∃ t,u=Value.str x t from r); subst e; exact zfY P w x t
theorem ze5 {P:Program} {w:World}:∀ {ks:List Key} {us:List Value},Vals (ks.map kV) us->ItemsAre (mixKind P w) ks us
 | [],_,r=>by rw [List.map_nil] at r; cases r; exact .nil
 | k :: ks,_,r=>by
   rw [List.map_cons] at r
   cases r with
   | cons h t=>exact .cons (zjH h) (ze5 t)
noncomputable abbrev KT (H:Hp):List (List Key×V)->List (List Key×Addr×Value)->Prop:=Paired fun p q=>p.1=q.1 /\ TupT H q.2.1 (p.1.map kV) /\ RelV p.2 q.2.2
theorem KT.val {H:Hp} {kvs:List (List Key×V)} {xs:List (List Key×Addr×Value)} (r:KT H kvs xs) (k:List Key):RelO (valV kvs k) ((atKey xs k).map (·.2)):=by
 induction r with
 | nil=>exact True.intro
 | @cons p q ps qs h t ih=>
   obtain ⟨h1,_,h2⟩:=h
   by_cases e:p.1=k
   ·have e':q.1=k:=h1.symm.trans e
    have b:atKey (q :: qs) k=some q.2:=by simp [atKey,List.find?_cons,e']
    rw [zc0 e,b]; exact h2
   ·have e':¬ q.1=k:=fun z=>e (h1.trans z)
    have b:atKey (q :: qs) k=atKey qs k:=by simp [atKey,List.find?_cons,e']
    rw [zc2 e,b]; exact ih
theorem KT.repl {H:Hp} {kvs:List (List Key×V)} {xs:List (List Key×Addr×Value)} (r:KT H kvs xs) (k:List Key) {y:V} {u:Value} (ry:RelV y u):
  KT H (kvs.map fun kv=>if kv.1=k then (kv.1,y) else kv) (xs.map (putAt k u)):=by
 induction r with
 | nil=>exact .nil
 | @cons p q ps qs h t ih=>
   rw [List.map_cons,List.map_cons]
   refine .cons ?_ ih
   obtain ⟨h1,h2,h3⟩:=h
   unfold putAt
   by_cases e:p.1=k
   ·rw [if_pos e,if_pos (h1.symm.trans e)]; exact ⟨h1,h2,ry⟩
   ·rw [if_neg e,if_neg (fun z=>e (h1.trans z))]; exact ⟨h1,h2,h3⟩
theorem KT.put {H:Hp} {kvs:List (List Key×V)} {xs:List (List Key×Addr×Value)} (r:KT H kvs xs) (k:List Key) {b:Addr} {y:V} {u:Value} (hb:TupT H b (k.map kV)) (ry:RelV y u):
  KT H (putK kvs k y) (storedH xs k b u):=by
 have e:(kvs.any fun kv=>decide (kv.1=k))=(atKey xs k).isSome:=by
  rw [zeE,(r.val k).isSome_eq,Option.isSome_map]
 unfold putK storedH
 rw [e]
 by_cases q:(atKey xs k).isSome=true
 ·rw [if_pos q,if_pos q]; exact r.repl k ry
 ·rw [if_neg q,if_neg q]; exact Paired.snoc r ⟨rfl,hb,ry⟩
theorem KT.keeps {H H':Hp} {kvs:List (List Key×V)} {xs:List (List Key×Addr×Value)} (r:KT H kvs xs) (ht:∀ b ys,TupT H b ys->TupT H' b ys):KT H' kvs xs:=
 Paired.mapP r fun _ _ z=>⟨z.1,ht _ _ z.2.1,z.2.2⟩
section
variable {P:Program} {w:World} {H:Hp} {h:Heap} {a:Addr}
theorem zoa {u:HO} (ok:HOk P w H h) (e:Rd H a u):ObjOk P w H h a u:=e.ok ok
theorem ziI {kvs:List (Key×V)} (ok:HOk P w H h) (e:Rd H a (.dK kvs)):kvs.length<=sizeLine /\ (a == sysModules)=false /\ ∃ vs,KV kvs vs /\ h.DictOf (mixKind P w) a vs:=
 show ObjOk P w H h a (.dK kvs) from zoa ok e
theorem zoj {kvs:List (Key×V)} (ok:HOk P w H h) (e:H a=some (.dK kvs)):kvs.length<=sizeLine /\ (a == sysModules)=false /\ ∃ vs,KV kvs vs /\ h.DictOf (mixKind P w) a vs:=ziI ok (.inl e)
theorem zfv {ks:List Key} (ok:HOk P w H h) (e:TupT H a (ks.map kV)):(tupleKind (mixKind P w)).is h ks a:=by
 obtain ⟨_,its,r,o,h1,h2,n,h3⟩:=(show ObjOk P w H h a (.tup (ks.map kV)) from Rd.ok e ok)
 exact ⟨o,its.toArray,n,h1,h2,h3,by simpa using ze5 r⟩
theorem zjF {kvs:List (List Key×V)} (ok:HOk P w H h) (e:Rd H a (.dT kvs)):kvs.length<=sizeLine /\ (a == sysModules)=false /\
  ∃ xs,KT H kvs xs /\ h.DictOfH (tupleKind (mixKind P w)) a xs:=by
 obtain ⟨z,y,xs,r,o,es,ep,h1,h2,h3,h4,h5⟩:=(show ObjOk P w H h a (.dT kvs) from zoa ok e)
 refine ⟨z,y,xs,r,o,es,ep,h1,h2,h3,h4,fun x hx=>?_,h5⟩
 have all:∀ {l:List (List Key×V)} {m:List (List Key×Addr×Value)},KT H l m->∀ x∈m,(tupleKind (mixKind P w)).is h x.1 x.2.1:=by
  intro l m q
  induction q with
  | nil=>intro x hx; exact nomatch hx
  | @cons p q ps qs hq t ih=>
    intro x hx
    rcases List.mem_cons.mp hx with e | hx
    ·subst e
     exact zfv ok (by rw [<- hq.1]; exact hq.2.1)
    ·exact ih x hx
 exact all r x hx
theorem znB {kvs:List (List Key×V)} (ok:HOk P w H h) (e:H a=some (.dT kvs)):kvs.length<=sizeLine /\ (a == sysModules)=false /\
  ∃ xs,KT H kvs xs /\ h.DictOfH (tupleKind (mixKind P w)) a xs:=zjF ok (.inl e)
end
noncomputable def DGet (H:Hp) (a:Addr) (y:V) (r:Option V):Prop:=
 (∃ kvs k,Rd H a (.dK kvs) /\ y=kV k /\ r=valV kvs k) \/ ∃ kvs k b,Rd H a (.dT kvs) /\ y=.ref b /\ TupT H b (k.map kV) /\ r=valV kvs k
noncomputable def DPut (H:Hp) (a:Addr) (y v:V) (H':Hp):Prop:=
 (∃ kvs k,H a=some (.dK kvs) /\ y=kV k /\ kvs.length < sizeLine /\ H'=upd H a (.dK (putK kvs k v))) \/
 ∃ kvs k b,H a=some (.dT kvs) /\ y=.ref b /\ TupT H b (k.map kV) /\ kvs.length < sizeLine /\ H'=upd H a (.dT (putK kvs k v))
theorem DGet.t {H:Hp} {a b:Addr} {kvs:List (List Key×V)} {k:List Key} (e:H a=some (.dT kvs)) (eb:TupT H b (k.map kV)):DGet H a (.ref b) (valV kvs k):=.inr ⟨kvs,k,b,.inl e,rfl,eb,rfl⟩
theorem DPut.t {H:Hp} {a b:Addr} {kvs:List (List Key×V)} {k:List Key} {v:V} (e:H a=some (.dT kvs)) (eb:TupT H b (k.map kV)) (hl:kvs.length < sizeLine):
  DPut H a (.ref b) v (upd H a (.dT (putK kvs k v))):=.inr ⟨kvs,k,b,e,rfl,eb,hl,rfl⟩
section
variable {X:Cx} {pins:List (Addr×Obj)} {σ:St} {H:Hp} {s:Shared} {a:Addr} {y v:V} {u r:Value} {o:Option V} {A:Around} {E:Value->Shared->Prop}
theorem Inv.big (I:Inv X pins σ H s):sysModules < s.heap.objs.size:=by
 have h:mainGlobals < s.heap.objs.size:=(I.mod.glob.keeps I.bk).lt
 exact Nat.lt_trans (by decide) h
theorem ziS {Q:Value->Shared->Prop} (hu:A.units + 1 < cLine) (I:Inv X pins σ H s) (g:DGet H a y (some v)) (ry:RelV y u) (h:∀ w' s',Inv X pins σ H s'->RelV v w'->Q w' s'):
  wpAny (model X.prog X.w) A (getItem (.ref a) u) Q E s:=by
 rcases g with ⟨kvs,k,e,ey,l⟩ | ⟨kvs,k,b,e,ey,eb,l⟩
 ·subst ey
  obtain ⟨z,hd,vs,rel,dd⟩:=ziI I.hok e
  obtain ⟨w',hw,rw'⟩:=RelO.some_of (v:=v) (o:=valueAt vs k) (by rw [l]; exact rel.val k)
  exact wpAny_getItem_of (zjH ry) dd.mapOf hw (h w' _ (I.tok _) rw')
 ·subst ey
  cases (show u=Value.ref b from ry)
  obtain ⟨z,hd,xs,rel,dd⟩:=zjF I.hok e
  obtain ⟨w',hw,rw'⟩:=RelO.some_of (v:=v) (o:=(atKey xs k).map (·.2)) (by rw [l]; exact rel.val k)
  obtain ⟨p,hp,hp2⟩:=Option.map_eq_some_iff.mp hw
  refine wpAny_getItem_heap (tupleKind_room_in1 hu) (zfv I.hok eb) dd hp ?_
  rw [hp2]
  exact h w' _ (I.tok _) rw'
theorem zgs {h':Heap} {t':Nat} {ob:HO} (I:Inv X pins σ H s) (mu:Mut (H a)) (hs:Heap.SameBut a s.heap h') (he:∃ q,h'.get? a=some q) (new:ObjOk X.prog X.w (upd H a ob) h' a ob):
  Inv X pins σ (upd H a ob) { s with heap:=h',toks:=t' }:=
 I.write (x:=a) (e:=a) mu (.inl rfl) (fun b q hb z=>(hs.2 b hb).trans z) he new
theorem znv {P:Program} {w:World} {H':Hp} {h':Heap} {kvs:List (Key×V)} {vs:List (Key×Value)} (z:kvs.length<=sizeLine) (hd:(a == sysModules)=false) (rel:KV kvs vs) (dd:h'.DictOf (mixKind P w) a vs):
  ObjOk P w H' h' a (.dK kvs):=⟨z,hd,vs,rel,dd⟩
theorem zi2 {H':Hp} {Q:Unit->Shared->Prop} (hu:A.units + 1 < cLine) (I:Inv X pins σ H s) (g:DPut H a y v H') (ry:RelV y u) (rv:RelV v r) (h:∀ s',Inv X pins σ H' s'->Q () s'):
  wpAny (model X.prog X.w) A (setItem (.ref a) u r) Q E s:=by
 rcases g with ⟨kvs,k,e,ey,l,eH⟩ | ⟨kvs,k,b,e,ey,eb,l,eH⟩
 ·subst ey eH
  obtain ⟨z,hd,vs,rel,dd⟩:=zoj I.hok e
  have hz:vs.length<=sizeLine:=by rw [<- rel.length]; exact z
  have hl:(putK kvs k v).length<=sizeLine:=by have:=zc8 kvs k v; omega
  refine wpAny_setItem_pairs (hsz:=hz) (zjH ry) dd fun h' dd' hs=>h _ ?_
  have he:∃ q,h'.get? a=some q:=let ⟨q,_,_,hq,_⟩:=dd'; ⟨q,hq⟩
  exact zgs I (by rw [e]; exact True.intro) hs he (znv hl hd (rel.put k rv) dd')
 ·subst ey eH
  cases (show u=Value.ref b from ry)
  obtain ⟨z,hd,xs,rel,dd⟩:=znB I.hok e
  have hz:xs.length<=sizeLine:=by rw [<- Paired.length rel]; exact z
  have hl:(putK kvs k v).length<=sizeLine:=by have:=zc8 kvs k v; omega
  refine wpAny_setItem_heap (hsz:=hz) (tupleKind_room_in1 hu) (zfv I.hok eb) dd fun h' dd' hs=>h _ ?_
  obtain ⟨q,es,ep,hq,h2,h3,h4,_,h5⟩:=dd'
  refine zgs I (by rw [e]; exact True.intro) hs ⟨q,hq⟩ ⟨hl,hd,_,(rel.put k eb rv).keeps fun c ys ec=>?_,q,es,ep,hq,h2,h3,h4,h5⟩
  exact ec.dT e
end
section
variable {X:Cx} {pins:List (Addr×Obj)} {σ:St} {H:Hp} {s:Shared} {a:Addr} {kvs:List (Key×V)} {k:Key} {u:Value} {A:Around} {E:Value->Shared->Prop}
end
noncomputable def NoSl (i:Expr):Prop:=∀ ov iv,subscripted i false ov iv=operate [ov,iv] (getItem ov iv)
theorem zl9 {prog:Program} {w:World} {A:Around} {E:Value->Shared->Prop} {s:Shared} {env:Env} {value slice:Expr} {pos:Pos} {T id:String} {Q:Value->Shared->Prop}
  (hl:typeLookup (.type T) "__getitem__"=pure (some (.builtin id))) (hs:NoSl slice)
  (h:wpAny (model prog w) A (eval value env) (fun o s₁=>wpAny (model prog w) A (eval slice env) (fun i s₂=>s₂.TypeIs o T /\ wpAny (model prog w) A (getItem o i) Q E s₂) E s₁) E s):
  wpAny (model prog w) A (eval (.Subscript value slice pos) env) Q E s:=by
 refine Subscript_ (wpAny_mono h (fun o s₁ h₁=>wpAny_mono h₁ (fun i s₂ h₂=>?_) fun _ _ x=>x) fun _ _ x=>x)
 obtain ⟨hT,h₂⟩:=h₂
 unfold subscriptTail
 refine wpAny_bind ?_
 rw [getitemInPython_of_ne hT.not_modules]
 refine wpAny_bind (wpAny_specialOf hT hl ?_)
 have fin:wpAny (model prog w) A (subscripted slice false o i) (fun r s₃=>wpAny (model prog w) A (letTemporaryGo value o r >>= fun _=>pure r) Q E s₃) E s₂:=by
  rw [hs o i]
  exact wpAny_operating (wpAny_mono h₂ (fun r s₃ h₃=>wpAny_bind (wpAny_letTemporaryGo (wpAny_pure h₃))) fun _ _ x=>x)
 first
  | exact wpAny_pure (wpAny_bind fin)
  | exact wpAny_bind (wpAny_pure (wpAny_bind fin))
  | exact wpAny_bind fin
theorem zgf {X:Cx} {pins:List (Addr×Obj)} {σ:St} {H:Hp} {s:Shared} {a:Addr} {y:V} {o:Option V} (I:Inv X pins σ H s) (g:DGet H a y o):s.TypeIs (.ref a) "dict":=by
 rcases g with ⟨kvs,k,e,_,_⟩ | ⟨kvs,k,b,e,_,_,_⟩
 ·obtain ⟨_,_,vs,_,dd⟩:=ziI I.hok e
  exact dd.typeIs
 ·obtain ⟨_,_,xs,_,dd⟩:=zjF I.hok e
  exact dd.typeIs
noncomputable def tDGet (td ty:TE):TE:=fun σ H Q=>td σ H fun x H1=>ty σ H1 fun y H2=>∃ a v,x=.ref a /\ DGet H2 a y (some v) /\ Q v H2
noncomputable def sDPut (td ty tv:TE):TS:=fun D σ H=>tv σ H fun v H1=>td σ H1 fun x H2=>ty σ H2 fun y H3=>∃ a H4,x=.ref a /\ DPut H3 a y v H4 /\ D.nx σ H4
section
variable {X:Cx} {o i e value:Expr} {pos pos' tpos:Pos} {td ty tv:TE}
theorem zmG (hu:X.A.units + 1 < cLine) (ho:PE X o td) (hi:PE X i ty) (hs:NoSl i):PE X (.Subscript o i pos) (tDGet td ty):=by
 intro pins s σ H Q I h
 refine zl9 PySem.F.slot_dict_getitem.lookup hs (thn (ho pins s σ H _ I h) fun u s1 ⟨x,H1,I1,rx,q1⟩=>thn (hi pins s1 σ H1 _ I1 q1) fun iv s2 ⟨y,H2,I2,ry,a,v,ex,g,q2⟩=>?_)
 subst ex
 obtain rfl:u=Value.ref a:=rx
 exact ⟨zgf I2 g,ziS hu I2 g ry fun w' s3 I3 rw'=>⟨v,H2,I3,rw',q2⟩⟩
theorem zmL (hu:X.A.units + 1 < cLine) (ho:PE X o td) (hi:PE X i ty) (hv:PE X value tv) (hs:swapsWith value (some (.Subscript o i pos')) pos.line X.env=pure false):
  PS X (.Assign [.Subscript o i pos'] value pos) (sDPut td ty tv):=by
 intro pins s σ H D I h
 refine wpAny_Assign_Subscript (thn (hv pins s σ H _ I h) fun r s1 ⟨v,H1,I1,rv,q1⟩=>thn (ho pins s1 σ H1 _ I1 q1) fun u s2 ⟨x,H2,I2,rx,q2⟩=>thn (hi pins s2 σ H2 _ I2 q2) fun iv s3 ⟨y,H3,I3,ry,a,H4,ex,g,q3⟩=>?_) hs
 subst ex
 obtain rfl:u=Value.ref a:=rx
 exact zi2 hu I3 g ry rv fun s4 I4=>⟨σ,H4,I4,q3⟩
end
theorem zkd {P:Program} {w:World} {H:Hp} (h:Heap) (hb:sysModules < h.objs.size):ObjOk P w H (h.push { cls:=.type "dict",data:=.dict #[] }) h.objs.size (.dT []):=
 ⟨Nat.zero_le _,beq_eq_false_iff_ne.mpr (Ne.symm (Nat.ne_of_lt hb)),[],.nil,_,#[],0,Heap.get?_push_size _ rfl,⟨rfl,rfl,rfl⟩,rfl,rfl,List.nodup_nil⟩
section
variable {X:Cx} {pos:Pos}
end
noncomputable def tPairs:List (TE×TE)->St->Hp->(List (V×V)->Hp->Prop)->Prop
 | [],_,H,Q=>Q [] H
 | (tk,tv) :: r,σ,H,Q=>tk σ H fun x H1=>tv σ H1 fun y H2=>tPairs r σ H2 fun ps H3=>Q ((x,y) :: ps) H3
noncomputable abbrev VV:List (V×V)->List (Value×Value)->Prop:=Paired fun p q=>RelV p.1 q.1 /\ RelV p.2 q.2
noncomputable def PPs (X:Cx) (pos:Pos) (keys:List (Option Expr)) (values:List Expr) (trs:List (TE×TE)):Prop:=
 ∀ (pins:List (Addr×Obj)) (s:Shared) (σ:St) (H:Hp) (Q:List (V×V)->Hp->Prop),Inv X pins σ H s->tPairs trs σ H Q->
   wpAny (model X.prog X.w) X.A (evalPairs (pairTrees keys values X.env pos)) (fun vs s'=>∃ ps H',Inv X pins σ H' s' /\ VV ps vs /\ Q ps H') X.xe s
theorem zmc {X:Cx} {pos:Pos}:PPs X pos [] [] []:=fun pins s σ H Q I h=>pairTrees_nil_walk ⟨[],H,I,.nil,h⟩
theorem zjW {X:Cx} {pos:Pos} {k v:Expr} {ks:List (Option Expr)} {vs:List Expr} {tk tv:TE} {trs:List (TE×TE)} (hk:PE X k tk) (hv:PE X v tv) (hr:PPs X pos ks vs trs):
  PPs X pos (some k :: ks) (v :: vs) ((tk,tv) :: trs):=fun pins s σ H Q I h=>
 pairTrees_cons_walk (thn (hk pins s σ H _ I h) fun u s1 ⟨x,H1,I1,rx,q1⟩=>thn (hv pins s1 σ H1 _ I1 q1) fun w2 s2 ⟨y,H2,I2,ry,q2⟩=>
  thn (hr pins s2 σ H2 _ I2 q2) fun ws s3 ⟨ps,H3,I3,rel,q3⟩=>⟨(x,y) :: ps,H3,I3,.cons ⟨rx,ry⟩ rel,q3⟩)
structure M2 (X:Cx) (o:Expr) (m:Str) (apos:Pos) (e f:Expr) (cpos:Pos):Prop where
 base:attributeBase o m X.env (eval o X.env)=eval o X.env
 few:((backTo cpos (starEach [e,f] X.env)).all (fun x=> !x.1) && (backToKw cpos (keywordEach [] X.env)).all (fun x=>x.1.isSome)
  && decide (([e,f]:List Expr).length + ([]:List Keyword).length + (if ([]:List Keyword).isEmpty then 0 else 1) < 30))=true
 line:(apos.endLine == cpos.line)=true
 trees:backTo cpos (starEach [e,f] X.env)=[(false,eval e X.env),(false,eval f X.env)]
noncomputable def IsDct (H:Hp) (a:Addr):Prop:=(∃ kvs,Rd H a (.dK kvs)) \/ ∃ kvs,Rd H a (.dT kvs)
theorem znF {X:Cx} {pins:List (Addr×Obj)} {σ:St} {H:Hp} {s:Shared} {a:Addr} (I:Inv X pins σ H s) (d:IsDct H a):
  s.TypeIs (.ref a) "dict" /\ (∀ b,Value.ref a=.ref b->∃ ob,s.heap.get? b=some ob /\ ob.dict=none) /\ (a == sysModules)=false:=by
 rcases d with ⟨kvs,e⟩ | ⟨kvs,e⟩
 ·obtain ⟨_,hd,vs,_,dd⟩:=ziI I.hok e
  refine ⟨dd.typeIs,fun b q=>?_,hd⟩
  cases q
  obtain ⟨ob,_,_,h1,h2,_⟩:=dd
  exact ⟨ob,h1,h2.2.1⟩
 ·obtain ⟨_,hd,xs,_,dd⟩:=zjF I.hok e
  refine ⟨dd.typeIs,fun b q=>?_,hd⟩
  cases q
  obtain ⟨ob,_,_,h1,h2,_⟩:=dd
  exact ⟨ob,h1,h2.2.1⟩
section
variable {X:Cx} {pins:List (Addr×Obj)} {σ:St} {H:Hp} {s:Shared} {a:Addr} {y d:V} {u r:Value} {o:Option V} {A:Around} {E:Value->Shared->Prop}
theorem znn {Q:Value->Shared->Prop} (hu:A.units + 1 < cLine) (I:Inv X pins σ H s) (g:DGet H a y o) (ry:RelV y u) (rd:RelV d r) (h:∀ w' s',Inv X pins σ H s'->RelV (o.getD d) w'->Q w' s'):
  wpAny (model X.prog X.w) A (call (.builtin "dict.get") [.ref a,u,r]) Q E s:=by
 rcases g with ⟨kvs,k,e,ey,l⟩ | ⟨kvs,k,b,e,ey,eb,l⟩
 ·subst ey
  obtain ⟨z,hd,vs,rel,dd⟩:=ziI I.hok e
  refine call_meetsIn PySem.F.slot_dict_get dd.typeIs PySem.F.entry_dict_get (PySem.F.args_dict_get_3 _ _ _) (meets_dict_get_default (mixKind X.prog X.w) a (zjH ry) hd r) ⟨_,dd.mapOf,h _ _ (I.tok _) ?_⟩
  rw [l]
  exact (rel.val k).getD rd
 ·subst ey
  cases (show u=Value.ref b from ry)
  obtain ⟨z,hd,xs,rel,dd⟩:=zjF I.hok e
  refine call_meetsIn PySem.F.slot_dict_get dd.typeIs PySem.F.entry_dict_get (PySem.F.args_dict_get_3 _ _ _) (meetsH_dict_get_default (tupleKind (mixKind X.prog X.w)) a b hd r) ⟨tupleKind_room_in1 hu,k,xs,zfv I.hok eb,dd,h _ _ (I.tok _) ?_⟩
  rw [l]
  exact (rel.val k).getD rd
end
noncomputable def tDGet2 (td ty tx:TE):TE:=fun σ H Q=>td σ H fun x H1=>∃ a,x=.ref a /\ IsDct H1 a /\ ty σ H1 fun y H2=>tx σ H2 fun z H3=>∃ o,DGet H3 a y o /\ Q (o.getD z) H3
section
variable {X:Cx} {o e f:Expr} {apos cpos:Pos} {td ty tx:TE}
theorem zjK (hu:X.A.units + 1 < cLine) (ho:PE X o td) (he:PE X e ty) (hf:PE X f tx) (m:M2 X o "get" apos e f cpos):PE X (.Call (.Attribute o "get" apos) [e,f] [] cpos) (tDGet2 td ty tx):=by
 intro pins s σ H Q I h
 refine wpAny_Call_method m.base m.few m.line PySem.F.plainAttrs_dict PySem.F.slot_dict_get PySem.F.type_dict_get (thn (ho pins s σ H _ I h) fun u s1 ⟨x,H1,I1,rx,a,ex,d,q1⟩=>?_)
 subst ex
 obtain rfl:u=Value.ref a:=rx
 obtain ⟨t1,t2,_⟩:=znF I1 d
 refine ⟨t1,t2,?_⟩
 rw [m.trees]
 refine Calls.callWith_builtin rfl (Calls.evalArgs_plain (Calls.spliced_cons (thn (he pins s1 σ H1 _ I1 q1) fun iv s2 ⟨y,H2,I2,ry,q2⟩=>
  Calls.spliced_cons (thn (hf pins s2 σ H2 _ I2 q2) fun fv s3 ⟨z,H3,I3,rz,ov,g,q3⟩=>Calls.spliced_nil ?_))))
 exact znn hu I3 g ry rz fun w' s4 I4 rw'=>⟨_,H3,I4,rw',q3⟩
end
end L2
set_option maxHeartbeats 4000000
namespace L2
open PySem PySem.Spec PyProof.Rows
section
variable {X:Cx}
theorem zB:OpR X (binaryOp .Mult) (rI IntMulOk fun i j=>.int (i * j)):=opI fun _ _ _ _ _ _ _ hc q=>mul_int q hc
noncomputable def CDivS (i j:Int):Prop:=j≠0 /\ Builtin.divisionGoesByPylong i j=false
theorem zaH:OpR X (binaryOp .FloorDiv) (rI CDivS fun i j=>.int (i.fdiv j)):=opI fun _ _ _ _ _ _ _ hc q=>floordiv_int hc.1 q (.inl hc.2)
theorem zfe {i j:Int} (h:Builtin.Int.intBits j<=9000):Builtin.divisionGoesByPylong i j=false:=by
 refine PyProof.noPylong_of_log2 ?_
 unfold Builtin.Int.intBits at h
 by_cases hj:j=0
 ·subst hj; decide +kernel
 ·rw [if_neg (by simpa using hj)] at h
  omega
theorem zbM {i j:Int} (h1: -(2 ^ 64) < j) (h2:j < 2 ^ 64):IntMulOk i j:=.of_right (intBits_le_64 h1 h2)
noncomputable def TyW (K:PySem.W.Frag) (H:Hp) (x:V) (t:String):Prop:=
 TyOf K H x (.type t) \/ (∃ a xs,x=.ref a /\ SqT K H a xs /\ t="tuple") \/ (∃ a xs,x=.ref a /\ SqL K H a xs /\ t="list")
noncomputable def rIsi (K:PySem.W.Frag):List V->Hp->VK->Prop:=fun xs H Q=>∃ x n t b,xs=[x,.ty n] /\ TyW K H x t /\ PySem.W.kitOne K (.type t) (.type n)=some b /\ Q (.bl b) H
theorem zjM:CallR X (.builtin "isinstance") (rIsi X.K):=by
 intro pins s σ H xs us Q I r h
 obtain ⟨x,n,t,b,rfl,ty,e,q⟩:=h
 obtain ⟨u1,u2,rfl,r1,r2⟩:∃ u1 u2,us=[u1,u2] /\ RelV x u1 /\ RelV (.ty n) u2:=by
  cases r with
  | cons p q=>cases q with
    | cons p' q'=>cases q'; exact ⟨_,_,rfl,p,p'⟩
 cases (show u2=Value.type n from r2)
 have fin:∀ tk,EP X pins σ Q (.bool b) { s with toks:=tk }:=fun tk=>⟨.bl b,H,I.tok _,rfl,q⟩
 rcases ty with ty | ⟨a,ys,rfl,hq,rfl⟩ | ⟨a,ys,rfl,hq,rfl⟩
 ·exact zi5 I r1 ty e fin
 ·cases (show u1=Value.ref a from r1)
  obtain ⟨its,_,p,_⟩:=I.tuple hq
  obtain ⟨o,h1,h2,_⟩:=p
  exact PySem.W.kia_one PySem.W.kitx_tuple I.kIn ⟨o,h1,h2⟩ e (fun z=>nomatch z) fin
 ·cases (show u1=Value.ref a from r1)
  obtain ⟨its,_,p,_⟩:=I.list hq
  obtain ⟨o,n,h1,h2,_⟩:=p
  exact PySem.W.kia_one PySem.W.kitx_list I.kIn ⟨o,h1,h2⟩ e (fun z=>nomatch z) fin
theorem zkL {K:PySem.W.Frag} {t:String}:PySem.W.kitOne K (.type t) (.type t)=some true:=by
 unfold PySem.W.kitOne
 rw [if_pos (by simp)]
noncomputable def Dn (P:Program) (w:World) (K:PySem.W.Frag) (mg:Str->Option Value) (base:Heap) (k:Nat) (x:Str) (ps:List Str) (sp:Sp):Prop:=
 ∃ f fd,FnOk P w K mg base CX0 k f fd ps sp /\ mg x=some (.ref f) /\ PySem.W.keepIn K (.ref f)=true /\ Binds K fd ps []
theorem zm0 {k kk:Nat} {x:Str} {ps:List Str} {sp:Sp} {e:Expr} {es:List Expr} {t:TA} {p pos:Pos} (D:Dn X.prog X.w X.K X.mg X.base k x ps sp) (hr:Room kk X.A) (hk:k<=kk) (ha:PA X (e :: es) t) (hg:Gl X x:=by rfl)
  (hdb:(x == ("__debug__":Str))=false:=by decide) (he:starEach (e :: es) X.env=(false,eval e X.env) :: starEach es X.env:=by rfl) (hpl:(backTo pos (starEach es X.env)).any (·.1)=false:=by rfl):
  PE X (.Call (.Name x p) (e :: es) [] pos) (tCall sp [] E0 t):=by
 obtain ⟨f,fd,F,m,kp,b⟩:=D
 exact zh3 F (hr.mono hk) hg m kp b .nil pass0 ha hdb he hpl
structure Bs (mg:Str->Option Value):Prop where
 len:mg "len"=none
 range:mg "range"=none
 isinstance:mg "isinstance"=none
 max:mg "max"=none
 min:mg "min"=none
 int:mg "int"=none
 bool:mg "bool"=none
 tuple:mg "tuple"=none
 list:mg "list"=none
 abs:mg "abs"=none
 str:mg "str"=none
 sum:mg "sum"=none
 sorted:mg "sorted"=none
 reversed:mg "reversed"=none
 enumerate:mg "enumerate"=none
 set:mg "set"=none
 all:mg "all"=none
 zip:mg "zip"=none
 any:mg "any"=none
noncomputable def Df (K:PySem.W.Frag) (mg:Str->Option Value) (x:Str) (st:Stmt) (ps:List Str):Prop:=∃ f fd,Fun K x x st f fd /\ mg x=some (.ref f) /\ Binds K fd ps []
theorem Df.ok {P:Program} {w:World} {K:PySem.W.Frag} {mg:Str->Option Value} {base:Heap} {x:Str} {st:Stmt} {N ps:List Str} {k:Nat} {sp:Sp} (F:Df K mg x st ps) (S:FnScope N ps (defScope st)) (len:∀ vs H Q E,sp vs H Q E->vs.length=ps.length)
  (hbody:∀ (f:Addr) (cdv:Value) (A:Around) (outer:List Env) (s:Shared) (H:Hp) (vs:List V) (Q:VK) (E:XK),Room k (A.deeper (envOfC x (defScope st) s.heap.objs.size f cdv))->sp vs H Q E->
   ∃ t,PSs (cxOf CX0 P w K mg base N x (defScope st) f cdv A outer s H E).nox (defBody st) t /\ t { nx:=fun _ H'=>Q .non H',rt:=Q } (start N vs) H):Dn P w K mg base (k + 1) x ps sp:=by
 obtain ⟨f,fd,F,m,b⟩:=F
 exact ⟨f,fd,F.ok S len (hbody f),m,F.kp,b⟩
noncomputable def Cn (mg:Str->Option Value) (x:Str) (v:V):Prop:=∃ u,mg x=some u /\ RelV v u
theorem zbG {x:Str} {v:V} {pos:Pos} (c:Cn X.mg x v) (hg:Gl X x:=by rfl) (hd:(x == ("__debug__":Str))=false:=by decide):PE X (.Name x pos) (tC v):=by
 obtain ⟨u,m,r⟩:=c
 exact zl4 hg m r hd
end
theorem z0 {H:Hp} {p:Addr} (h:H p=none) (o:HO):Same H (upd H p o):=fun b u q=>by rw [zt (zu q h)]; exact q
theorem small {n:Nat} (h:n<=100000):n<=sizeLine:=Nat.le_trans h (by decide)
theorem small' {n:Nat} (h:n<=100000):n < sizeLine:=Nat.lt_of_le_of_lt h (by decide)
end L2
namespace L2
open PySem PySem.Spec PyProof.Rows
section
variable {X:Cx}
noncomputable def rBits:V->List V->Hp->VK->Prop:=fun x vs H Q=>∃ i:Int,x=.int i /\ vs=[] /\ Q (.int (Builtin.Int.intBits i:Nat)) H
theorem zlE:MtR X "int.bit_length" rBits:=by
 intro pins s σ H x vs v us Q I rx rv h
 obtain ⟨i,rfl,rfl,q⟩:=h
 obtain ⟨t,rfl⟩:=rx
 cases rv
 exact call_int_bit_length ⟨.int _,H,I.tok _,⟨_,rfl⟩,q⟩
theorem zlx {o:Expr} {to:TE} {apos cpos:Pos} (ho:PE X o to) (hbase:attributeBase o "bit_length" X.env (eval o X.env)=eval o X.env:=by rfl) (hline:(apos.endLine == cpos.line)=true:=by rfl):
  PE X (.Call (.Attribute o "bit_length" apos) [] [] cpos) (tBM0 X.K "int" rBits to):=zn9 PySem.F.plainAttrs_int PySem.F.slot_int_bit_length PySem.F.type_int_bit_length zlE ho hbase hline
end
theorem Same.upd {H H':Hp} {l:Addr} (s:Same H H') (h:H l=none) (o:HO):Same H (upd H' l o):=fun b u q=>by rw [zt (zu q h)]; exact s b u q
end L2
namespace L2
open PySem PySem.Spec PyProof.Rows
theorem znk:bootBuiltins "int"=some (.type "int"):=by decide +kernel
theorem zeR:bootBuiltins "tuple"=some (.type "tuple"):=by decide +kernel
theorem zmR:bootBuiltins "list"=some (.type "list"):=by decide +kernel
theorem zd6:bootBuiltins "len"=some (.builtin "len"):=by decide +kernel
theorem zfG:bootBuiltins "abs"=some (.builtin "abs"):=by decide +kernel
theorem zca:bootBuiltins "isinstance"=some (.builtin "isinstance"):=by decide +kernel
section
variable {X:Cx}
end
end L2
namespace L2
open PySem PySem.Spec PyProof.Rows
section
variable {X:Cx}
end
end L2
namespace L2
open PySem PySem.Spec PyProof.Rows
section
variable {X:Cx}
theorem zcw {scope:Scope} {env:Env} (h:∀ y∈scope.names,y.2=.free->∃ c,env.cells.lookup y.1=some c):
  ∃ cl:List (Str×Addr),closureFor scope env=pure cl /\ (∀ n c,cl.lookup n=some c->env.cells.lookup n=some c) /\ ∀ n,(n,NameKind.free)∈scope.names->∃ c,cl.lookup n=some c:=by
 have go:∀ (l:List (Str×NameKind)) (cs:List (Str×Addr)),(∀ y∈l,y.2=.free->∃ c,env.cells.lookup y.1=some c)->(∀ n c,cs.lookup n=some c->env.cells.lookup n=some c)->
   ∃ cl:List (Str×Addr),(forIn l cs fun x r=>(match x with | (name,kind)=>if (kind == NameKind.free)=true then (do let a <- cellOf env name; pure (ForInStep.yield ((name,a) :: r))) else pure (ForInStep.yield r):Sem (ForInStep (List (Str×Addr)))))=(pure cl:Sem _) /\
     (∀ n c,cl.lookup n=some c->env.cells.lookup n=some c) /\ (∀ n,(n,NameKind.free)∈l->∃ c,cl.lookup n=some c) /\ ∀ n c,cs.lookup n=some c->∃ c',cl.lookup n=some c':=by
  intro l
  induction l with
  | nil=>intro cs _ hc; exact ⟨cs,rfl,hc,fun n hn=>by simp at hn,fun n c e=>⟨c,e⟩⟩
  | cons y r ih=>
    intro cs hl hc
    obtain ⟨name,kind⟩:=y
    by_cases hk:kind=.free
    ·subst hk
     obtain ⟨c,e⟩:=hl (name,.free) List.mem_cons_self rfl
     have hc':∀ n d,((name,c) :: cs).lookup n=some d->env.cells.lookup n=some d:=by
      intro n d q
      rw [List.lookup_cons] at q
      cases hb:n == name with
      | true=>rw [hb] at q; cases q; rw [eq_of_beq hb]; exact e
      | false=>rw [hb] at q; exact hc n d q
     obtain ⟨cl,h1,h2,h3,h4⟩:=ih ((name,c) :: cs) (fun y hy=>hl y (List.mem_cons_of_mem _ hy)) hc'
     refine ⟨cl,?_,h2,fun n hn=>?_,fun n d q=>?_⟩
     ·rw [List.forIn_cons]
      have ec:cellOf env name=pure c:=by unfold cellOf; rw [e]
      simp only [beq_self_eq_true,if_true,ec,pure_bind]
      exact h1
     ·rcases List.mem_cons.mp hn with z | z
      ·cases z
       exact h4 name c (by rw [List.lookup_cons]; simp)
      ·exact h3 n z
     ·by_cases hb:n == name
      ·exact h4 n c (by rw [List.lookup_cons,hb])
      ·exact h4 n d (by rw [List.lookup_cons]; simp only [hb]; exact q)
    ·obtain ⟨cl,h1,h2,h3,h4⟩:=ih cs (fun y hy=>hl y (List.mem_cons_of_mem _ hy)) hc
     refine ⟨cl,?_,h2,fun n hn=>?_,h4⟩
     ·rw [List.forIn_cons]
      have eb:(kind == NameKind.free)=false:=by simpa using hk
      simp only [eb,Bool.false_eq_true,if_false,pure_bind]
      exact h1
     ·rcases List.mem_cons.mp hn with z | z
      ·cases z; exact absurd rfl hk
      ·exact h3 n z
 obtain ⟨cl,h1,h2,h3,_⟩:=go scope.names [] h (fun n c e=>by simp at e)
 refine ⟨cl,?_,h2,h3⟩
 simp only [closureFor]
 rw [h1]
 rfl
noncomputable def compCx (X:Cx) (scope:Scope) (N':List Str) (cl:List (Str×Addr)) (C:Addr) (s2:Shared) (H2:Hp) (fp:List Addr) (pins:List (Addr×Obj)):Cx:=
 { X with N:=N',s₀:=s2,H₀:=H2,env:=compEnvC scope cl C X.env,outer:=X.stack,stack:=X.stack,ex:=fp,fn:=fun _=>false,pn:=X.pn ++ pins,xe:=fun _ _=>False }
noncomputable def capt (ix:List Nat) (σ:St):St:=ix.map fun j=>(σ[j]?).join
section
variable {scope:Scope} {x:Str} {ix:List Nat} {N':List Str} {cl:List (Str×Addr)} {C:Addr} {s2 s3:Shared} {H2:Hp} {fp:List Addr} {pins:List (Addr×Obj)} {σ:St}
theorem zkF {j:Nat} {v:V} (h:(capt ix σ)[j]?=some (some v)):∃ i,ix[j]?=some i /\ σ[i]?=some (some v):=by
 unfold capt at h
 rw [List.getElem?_map] at h
 cases e:ix[j]? with
 | none=>rw [e] at h; cases h
 | some i=>
   rw [e] at h
   have h':(σ[i]?).join=some v:=Option.some.inj h
   refine ⟨i,rfl,?_⟩
   cases q:σ[i]? with
   | none=>rw [q] at h'; cases h'
   | some w=>rw [q] at h'; rw [show w=some v from h']
noncomputable abbrev lob (its:List Value) (n:Nat):Obj:={ cls:=.type "list",data:=.seq its.toArray n }
theorem Inv.track {X:Cx} {pins:List (Addr×Obj)} {σ:St} {H:Hp} {s:Shared} {D:Addr} {ys:List V} {its:List Value} {n:Nat} (I:Inv X pins σ H s) (hD:H D=none) (hs:X.s₀.heap.objs.size<=D) (hl:D≠X.env.locals) (hc:∀ x c,X.env.cells.lookup x=some c->c≠D)
  (hp:∀ p∈X.pn ++ pins,p.1≠D) (e:s.heap.get? D=some (lob its n)) (r:Vals ys its) (hz:ys.length<=sizeLine):Inv X pins σ (upd H D (.lst ys)) s:=by
 have h:=I.step (H':=upd H D (.lst ys)) (h':=s.heap) (g':=s.gens) (t':=s.toks) (d':=s.drawn) (ch:=[D]) (fun b hb=>by
   have e:b=D:=by simpa using hb
   subst e
   exact ⟨.inr hs,hl,hc,hp⟩)
  (fun b o _ _ _ q _=>q) (fun b o _ _ _ q _=>⟨o.slots,q⟩) (fun b o hb _ q=>by rw [zt (by simpa using hb)]; exact q) (fun b o _ q=>⟨o,q⟩)
  (fun b xs q=>by rw [zt (zu q hD)]; exact q) (fun b o u q=>by rw [zt (zu q hD)]; exact q) (fun b ps q=>⟨#[],by rw [zt (zu q hD),Array.append_empty]; exact q⟩) (fun m hm=>hm) (fun b u q=>?_) I.bare
 ·exact h
 ·by_cases hb:b=D
  ·subst hb
   rw [zH] at q; cases q
   exact ⟨hz,its,n,r,e⟩
  ·rw [zt hb] at q
   exact (I.hok b u q).stay (fun _ _ _ z=>z) (fun c z=>by rw [zt (zu z hD)]; exact z) fun c xs z=>z.new hD
theorem zi4 (I0:Inv X pins σ H2 s2) (hC:s2.heap.objs.size<=C) {D:Addr} (hD:s2.heap.objs.size<=D) (hf:∀ b∈fp,FpOk X pins H2 b) {σ':St} {H:Hp} {s1:Shared} {ys:List V} {its:List Value} {n:Nat} {more:List (Addr×Obj)}
  (I:Inv (compCx X scope N' cl C s2 H2 fp pins) ((D,lob its n) :: more) σ' H s1) (r:Vals ys its) (hz:ys.length<=sizeLine) {h':Heap} (hs:Heap.SameBut C s1.heap h') (hDC:D≠C):
  Inv X pins σ (upd H D (.lst ys)) { s1 with heap:=h' }:=by
 have nC:∀ b o,s2.heap.get? b=some o->b≠C:=fun b o e=>Nat.ne_of_lt (Nat.lt_of_lt_of_le (Heap.lt_size e) hC)
 have B:Un (frs X.stack) fp H2 H s2.heap s1.heap:=I.base
 have fC:H C=none:=I.free
 have pD:=I.pin (D,lob its n) (List.mem_append_right _ List.mem_cons_self)
 have u:Un (frs X.stack) fp H2 H s2.heap h':=⟨fun b o e n hb hx=>(hs.2 b (nC b o e)).trans (B.keep b o e n hb hx),fun b o e n hb hx=>by
   obtain ⟨sl,q⟩:=B.slot b o e n hb hx
   exact ⟨sl,(hs.2 b (nC b o e)).trans q⟩,B.free,fun b o e hx=>by
   obtain ⟨o',q⟩:=B.there b o e hx
   exact ⟨o',(hs.2 b (nC b o e)).trans q⟩,B.tups,B.frzs,B.tbls⟩
 have hok:HOk X.prog X.w H h':=fun b o e=>(I.hok b o e).stay (fun c v hc q=>(hs.2 c (by
   rintro rfl
   rcases hc with z | z
   ·subst z; rw [fC] at e; cases e
   ·rw [fC] at z; cases z)).trans q) (fun _ q=>q) fun _ _ q=>q
 have I1:Inv X pins σ H { s1 with heap:=h' }:=I0.call' (s':={ s1 with heap:=h' }) (ch:=fp) I.os u hok I.bare fun b hb=>⟨(hf b hb).2.2.2.1,(hf b hb).2.1,(hf b hb).2.2.2.2.1,(hf b hb).2.2.2.2.2⟩
 refine I1.track (its:=its) (n:=n) pD.2.1 (Nat.le_trans I0.sz hD) (Nat.ne_of_gt (Nat.lt_of_lt_of_le I0.lt hD)) (fun a c e z=>?_) (fun p hp z=>?_) ((hs.2 D hDC).trans pD.1) r hz
 ·obtain ⟨v,q⟩:=I0.cell a c e
  exact absurd (Nat.lt_of_lt_of_le q.lt (by rw [z]; exact hD)) (Nat.lt_irrefl _)
 ·exact absurd (Nat.lt_of_lt_of_le (Heap.lt_size (I0.pin p hp).1) (by rw [z]; exact hD)) (Nat.lt_irrefl _)
end
section
variable {scope:Scope} {x:Str} {ix:List Nat} {N':List Str} {elt iter:Expr} {px pos:Pos} {wi:TI} {te:TE}
end
noncomputable def relN (sc scope:Scope):List (Str×NameKind):=scope.names.map fun (n,k)=>if (k == .free && sc.kind == .function && sc.names.lookup n == some .cell) then (n,.cell) else (n,k)
theorem zct {n:Str} {k:NameKind}:∀ {l:List (Str×NameKind)},l.lookup n=some k->(n,k)∈l
 | [],h=>by simp at h
 | (a,b) :: r,h=>by
   rw [List.lookup_cons] at h
   cases e:n == a with
   | true=>rw [e] at h; cases h; rw [eq_of_beq e]; exact List.mem_cons_self
   | false=>rw [e] at h; exact List.mem_cons_of_mem _ (zct h)
section
variable {scope:Scope} {x:Str} {elt iter:Expr} {px pos:Pos} {wi:TI} {te:TE}
end
end
end L2
namespace L2
open PySem PySem.Spec PyProof.Rows
section
variable {X:Cx} {pins:List (Addr×Obj)} {σ:St} {H:Hp} {s:Shared}
end
section
variable {X:Cx}
end
noncomputable abbrev Fr2:=Int×Int
noncomputable def dF (q:Fr2):PyData:=.tuple [.int q.1,.int q.2]
end L2
namespace L2
open PySem PySem.Spec PyProof.Rows
noncomputable abbrev D:=PyData
noncomputable abbrev DS:=List (Option D)
noncomputable def cstTab:List (Addr×List V):=[(296,[.int (0),.int (1)]),(304,[.int (1),.int (1)])]
noncomputable def lamTab:List (Addr×Pos×Str):=[(327,⟨143,22,143,56⟩,"so_many.<locals>.<lambda>")]
theorem Same.tupT {H H':Hp} {a:Addr} {xs:List V} (s:Same H H') (h:TupT H a xs):TupT H' a xs:=by
 rcases h with h | ⟨ob,h⟩
 ·exact .inl (s _ _ h)
 ·exact .inr ⟨ob,s _ _ h⟩
noncomputable def wo (H:Hp) (A:List Addr):Hp:=fun a=>if a∈A then none else H a
section
variable {K:PySem.W.Frag} {H H':Hp} {A A':List Addr} {a l p r:Addr} {o:HO}
theorem zT (h:a∉A):wo H A a=H a:=by unfold wo; rw [if_neg h]
theorem zdl (h:a∈A):wo H A a=none:=by unfold wo; rw [if_pos h]
theorem zb4 (h:wo H A a=some o):a∉A /\ H a=some o:=by
 unfold wo at h
 split at h
 ·cases h
 ·exact ⟨by assumption,h⟩
theorem zah:Same (wo H A) H:=fun _ _ h=>(zb4 h).2
theorem zaK (s:Same H H'):Same (wo H A) (wo H' A):=fun b u h=>by
 obtain ⟨h1,h2⟩:=zb4 h
 rw [zT h1]; exact s b u h2
theorem zde (h:∀ a∈A',a∈A):Same (wo H A) (wo H A'):=fun b u q=>by
 obtain ⟨h1,h2⟩:=zb4 q
 rw [zT fun z=>h1 (h b z)]; exact h2
theorem zlk:wo H []=H:=by funext a; exact zT (by simp)
theorem zk6 (h:p∉A):wo (upd H p o) A=upd (wo H A) p o:=by
 funext a
 by_cases e:a=p
 ·subst e; rw [zT h,zH,zH]
 ·rw [zt e]
  by_cases z:a∈A
  ·rw [zdl z,zdl z]
  ·rw [zT z,zT z,zt e]
theorem zlh (h:l∈A):wo (upd H l o) A=wo H A:=by
 funext a
 by_cases z:a∈A
 ·rw [zdl z,zdl z]
 ·rw [zT z,zT z,zt]
  intro e; subst e; exact z h
theorem zgy (h:H r=none):wo (upd H r o) (r :: A)=wo H A:=by
 funext a
 by_cases e:a=r
 ·subst e
  rw [zdl (by simp)]
  by_cases z:a∈A
  ·rw [zdl z]
  ·rw [zT z,h]
 ·by_cases z:a∈A
  ·rw [zdl (by simp [z]),zdl z]
  ·rw [zT (by simp [e,z]),zT z,zt e]
theorem zjA (s:Same H H') (h:H r=none):Same (wo H A) (wo H' (r :: A)):=fun b u q=>by
 obtain ⟨h1,h2⟩:=zb4 q
 rw [zT (by simp only [List.mem_cons,not_or]; exact ⟨zu h2 h,h1⟩)]
 exact s b u h2
noncomputable def OwnO:HO->Prop
 | .lst _=>True
 | .dT _=>True
 | _=>False
noncomputable def Ls (A:List Addr) (H:Hp):Prop:=(∀ a∈A,∃ o,H a=some o /\ OwnO o) /\ (∀ p xs,(p,xs)∈cstTab->TupT H p xs) /\ ∀ p y q,(p,y,q)∈lamTab->H p=some (.lam y q)
theorem Ls.same (h:Ls A H) (s:Same H H'):Ls A H':=⟨fun a ha=>let ⟨o,e,q⟩:=h.1 a ha; ⟨o,s _ _ e,q⟩,fun p xs m=>s.tupT (h.2.1 p xs m),fun p y q m=>s _ _ (h.2.2 p y q m)⟩
theorem TupT.apart {xs:List V} (t:TupT H p xs) (e:H l=some o) (w:OwnO o):p≠l:=fun z=>by
 subst z
 rcases t with t | ⟨ob,t⟩ <;> rw [e] at t <;> cases t <;> exact w
theorem TupT.wo {xs:List V} (t:TupT H p xs) (n:p∉A):TupT (L2.wo H A) p xs:=by
 rcases t with t | ⟨ob,t⟩
 ·exact .inl (by rw [zT n]; exact t)
 ·exact .inr ⟨ob,by rw [zT n]; exact t⟩
theorem Ls.free (h:Ls A H) (n:H p=none):p∉A:=fun z=>by
 obtain ⟨ys,e,_⟩:=h.1 p z
 rw [n] at e; cases e
end
noncomputable def NoCtx (h:Heap) (e:Addr):Prop:=∃ o fs,h.get? e=some o /\ o.data=.fields fs /\ fs[2]?=some Value.none
noncomputable def ExO (a C:Addr):HO:=.ext fun h=>(∃ o,h.get? a=some o /\ o.cls=.ref C) /\ NoCtx h a
noncomputable def keyD:Key->D:=Sum.elim .int .str
mutual
inductive HD (K:PySem.W.Frag) (H:Hp):V->D->Prop
 | non:HD K H .non .none
 | bl (b:Bool):HD K H (.bl b) (.bool b)
 | int (i:Int):HD K H (.int i) (.int i)
 | str (x:Str):HD K H (.str x) (.str x)
 | lst {a:Addr} {xs:List V} {ds:List D}:LsD K H a xs->HDs K H xs ds->HD K H (.ref a) (.list ds)
 | tup {a:Addr} {xs:List V} {ds:List D}:TupT H a xs->HDs K H xs ds->HD K H (.ref a) (.tuple ds)
 | dct {a:Addr} {kvs:List (List Key×V)} {kds:List (D×D)}:H a=some (.dT kvs)->kds.map (·.1)=kvs.map (fun p=>PyData.tuple (p.1.map keyD))->HDs K H (kvs.map (·.2)) (kds.map (·.2))->HD K H (.ref a) (.dict kds)
 | fn {f c:Addr} {q:Str}:H c=some (.code q)->HD K H (.ref f) (.dict [(.list [],.tuple [.int (f:Nat),.int (c:Nat),.str q])])
 | exc {a C:Addr} {c:Str}:PySem.W.nsIn K mainGlobals c=some (some (.ref C))->H a=some (ExO a C)->HD K H (.ref a) (.dict [(.list [],.tuple [.int (a:Nat),.str c])])
inductive HDs (K:PySem.W.Frag) (H:Hp):List V->List D->Prop
 | nil:HDs K H [] []
 | cons {x:V} {xs:List V} {d:D} {ds:List D}:HD K H x d->HDs K H xs ds->HDs K H (x :: xs) (d :: ds)
end
theorem Same.rd {H H':Hp} {a:Addr} {u:HO} (s:Same H H') (h:Rd H a u):Rd H' a u:=by
 rcases h with h | ⟨o,h⟩
 ·exact .inl (s _ _ h)
 ·exact .inr ⟨o,s _ _ h⟩
theorem LsD.of {K:PySem.W.Frag} {H:Hp} {a:Addr} {xs:List V} (h:H a=some (.lst xs)):LsD K H a xs:=.inl (.inl h)
theorem LsD.sq {K:PySem.W.Frag} {H:Hp} {a:Addr} {xs:List V} (h:LsD K H a xs):SqL K H a xs:=by
 rcases h with h | ⟨its,n,h1,h2,h3⟩
 ·exact .inl h
 ·exact .inr ⟨_,its.toArray,n,h1,rfl,rfl,rfl,by rw [List.size_toArray]; exact h2,by simpa using h3⟩
theorem LsD.same {K:PySem.W.Frag} {H H':Hp} {a:Addr} {xs:List V} (s:Same H H') (h:LsD K H a xs):LsD K H' a xs:=by
 rcases h with h | h
 ·exact .inl (s.rd h)
 ·exact .inr h
theorem Inv.lsd {X:Cx} {pins:List (Addr×Obj)} {σ:St} {H:Hp} {s:Shared} {a:Addr} {xs:List V} (I:Inv X pins σ H s) (h:LsD X.K H a xs):xs.length<=sizeLine /\ ∃ (its:List Value) (n:Nat),Vals xs its /\ s.heap.get? a=some { cls:=.type "list",data:=.seq its.toArray n }:=by
 rcases h with h | ⟨its,n,h1,h2,h3⟩
 ·exact h.ok I.hok
 ·exact ⟨by rw [h3.length]; exact h2,its,n,h3,I.kIn a _ h1⟩
theorem HD.same {K:PySem.W.Frag} {H H':Hp} (e:Same H H') {x:V} {d:D} (h:HD K H x d):HD K H' x d:=
 HD.rec (motive_1:=fun x d _=>HD K H' x d) (motive_2:=fun x d _=>HDs K H' x d) .non .bl .int .str (fun hq _ i=>.lst (hq.same e) i) (fun hq _ i=>.tup (e.tupT hq) i) (fun hq k _ i=>.dct (e _ _ hq) k i) (fun h=>.fn (e _ _ h)) (fun k h=>.exc k (e _ _ h)) .nil (fun _ _ i j=>.cons i j) h
theorem HDs.same {K:PySem.W.Frag} {H H':Hp} (e:Same H H') {x:List V} {d:List D} (h:HDs K H x d):HDs K H' x d:=
 HDs.rec (motive_1:=fun x d _=>HD K H' x d) (motive_2:=fun x d _=>HDs K H' x d) .non .bl .int .str (fun hq _ i=>.lst (hq.same e) i) (fun hq _ i=>.tup (e.tupT hq) i) (fun hq k _ i=>.dct (e _ _ hq) k i) (fun h=>.fn (e _ _ h)) (fun k h=>.exc k (e _ _ h)) .nil (fun _ _ i j=>.cons i j) h
section
variable {X:Cx} {pins:List (Addr×Obj)} {σ:St} {H:Hp} {s:Shared}
theorem zbT {d:D} (h:SeqAt.shaped d=true):d.canLay0=true:=by
 unfold SeqAt.shaped at h
 rw [Bool.and_eq_true] at h
 exact h.1
theorem zod (I:Inv X pins σ H s) {a:Addr} {xs:List V} {ds:List D} {u:Value} (hq:LsD X.K H a xs) (r:RelV (.ref a) u) (h:∀ {us},Vals xs us->∃ as,ReadsAll s.heap us ds as):∃ as,Reads s.heap u (.list ds) as:=by
 cases (show u=Value.ref a from r)
 obtain ⟨its,rv,⟨o,n,h1,h2,_,h3⟩,_⟩:=I.list hq.sq
 obtain ⟨as,q⟩:=h rv
 exact ⟨_,.list h1 h2 h3 (by simpa using q)⟩
theorem zng (I:Inv X pins σ H s) {a:Addr} {xs:List V} {ds:List D} {u:Value} (hq:TupT H a xs) (r:RelV (.ref a) u) (h:∀ {us},Vals xs us->∃ as,ReadsAll s.heap us ds as):∃ as,Reads s.heap u (.tuple ds) as:=by
 cases (show u=Value.ref a from r)
 obtain ⟨its,rv,⟨o,h1,h2,n,h3⟩,_⟩:=I.tuple (.inl hq)
 obtain ⟨as,q⟩:=h rv
 exact ⟨_,.tuple h1 h2 h3 (by simpa using q)⟩
theorem HD.reads (I:Inv X pins σ H s) {x:V} {d:D} (h:HD X.K H x d):∀ {u:Value},RelV x u->PyData.canLay0 d=true->∃ as,Reads s.heap u d as:=
 HD.rec (motive_1:=fun x d _=>∀ {u},RelV x u->d.canLay0=true->∃ as,Reads s.heap u d as) (motive_2:=fun x d _=>∀ {u},Vals x u->PyData.canLayAll0 d=true->∃ as,ReadsAll s.heap u d as)
  (fun {u} r _=>by cases (show u=Value.none from r); exact ⟨_,.none⟩) (fun b {u} r _=>by cases (show u=Value.bool b from r); exact ⟨_,.bool b⟩) (fun i {u} r _=>by obtain ⟨t,rfl⟩:=r; exact ⟨_,.int i t⟩) (fun i {u} r _=>by obtain ⟨t,rfl⟩:=r; exact ⟨_,.str i t⟩)
  (fun {_ _ _} hq _ i {_} r c=>zod I hq r fun rv=>i rv (by rw [PyData.canLay0] at c; exact c)) (fun {_ _ _} hq _ i {_} r c=>zng I hq r fun rv=>i rv (by rw [PyData.canLay0] at c; exact c)) (fun {_ _ _} _ _ _ _ {_} _ c=>by rw [PyData.canLay0] at c; cases c) (fun {_ _ _} _ {_} _ c=>by rw [PyData.canLay0] at c; cases c) (fun {_ _ _} _ _ {_} _ c=>by rw [PyData.canLay0] at c; cases c)
  (fun {_} r _=>by cases r; exact ⟨_,.nil⟩) (fun {_ _ _ _} _ _ i j {_} r c=>by
   rw [PyData.canLayAll0,Bool.and_eq_true] at c
   cases r with
   | cons r rs=>
     obtain ⟨as,q⟩:=i r c.1
     obtain ⟨bs,qs⟩:=j rs c.2
     exact ⟨_,.cons q qs⟩) h
end
theorem HDs.len {K:PySem.W.Frag} {H:Hp}:∀ {xs:List V} {ds:List D},HDs K H xs ds->xs.length=ds.length
 | _,_,.nil=>rfl
 | _,_,.cons _ t=>by rw [List.length_cons,List.length_cons,HDs.len t]
theorem HDs.get {K:PySem.W.Frag} {H:Hp}:∀ {xs:List V} {ds:List D} {i:Nat} {d:D},HDs K H xs ds->ds[i]?=some d->∃ x,xs[i]?=some x /\ HD K H x d
 | _,_,_,_,.nil,e=>by simp at e
 | _,_,0,_,.cons r _,e=>by simp at e; subst e; exact ⟨_,rfl,r⟩
 | _,_,i + 1,y,.cons _ t,e=>by
   obtain ⟨u,h1,h2⟩:=HDs.get (i:=i) (d:=y) t (by simpa using e)
   exact ⟨u,by simpa using h1,h2⟩
theorem HDs.app {K:PySem.W.Frag} {H:Hp}:∀ {xs xs':List V} {ds ds':List D},HDs K H xs ds->HDs K H xs' ds'->HDs K H (xs ++ xs') (ds ++ ds')
 | _,_,_,_,.nil,s=>s
 | _,_,_,_,.cons r t,s=>.cons r (HDs.app t s)
theorem HDs.takeD {K:PySem.W.Frag} {H:Hp}:∀ {xs:List V} {ds:List D} (n:Nat),HDs K H xs ds->HDs K H (xs.take n) (ds.take n)
 | _,_,0,_=>.nil
 | _,_,_ + 1,.nil=>.nil
 | _,_,n + 1,.cons r t=>.cons r (HDs.takeD n t)
theorem HDs.dropD {K:PySem.W.Frag} {H:Hp}:∀ {xs:List V} {ds:List D} (n:Nat),HDs K H xs ds->HDs K H (xs.drop n) (ds.drop n)
 | _,_,0,r=>r
 | _,_,_ + 1,.nil=>.nil
 | _,_,n + 1,.cons _ t=>HDs.dropD n t
theorem HDs.ints {K:PySem.W.Frag} {H:Hp}:∀ ns:List Int,HDs K H (ns.map V.int) (ns.map PyData.int)
 | []=>.nil
 | n :: ns=>.cons (.int n) (HDs.ints ns)
theorem zlZ {H:Hp} {A:List Addr} {a:Addr} {xs:List V} (h:TupT H a xs) (al:Ls A H):TupT (wo H A) a xs:=by
 rcases h with h | ⟨ob,h⟩
 ·refine .inl ?_
  rw [zT fun z=>?_]; exact h
  obtain ⟨o,e,q⟩:=al.1 a z
  rw [h] at e; cases e; exact q
 ·refine .inr ⟨ob,?_⟩
  rw [zT fun z=>?_]; exact h
  obtain ⟨o,e,q⟩:=al.1 a z
  rw [h] at e; cases e; exact q
inductive OwO (K:PySem.W.Frag) (H:Hp):HO->D->Prop
 | lst {ys:List V} {ds:List D}:HDs K H ys ds->OwO K H (.lst ys) (.list ds)
 | dct {kvs:List (List Key×V)} {kds:List (D×D)}:kds.map (·.1)=kvs.map (fun p=>PyData.tuple (p.1.map keyD))->HDs K H (kvs.map (·.2)) (kds.map (·.2))->OwO K H (.dT kvs) (.dict kds)
theorem OwO.same {K:PySem.W.Frag} {H H':Hp} {o:HO} {d:D} (s:Same H H') (h:OwO K H o d):OwO K H' o d:=by
 cases h with
 | lst q=>exact .lst (q.same s)
 | dct k q=>exact .dct k (q.same s)
theorem OwO.own {K:PySem.W.Frag} {H:Hp} {o:HO} {d:D} (h:OwO K H o d):OwnO o:=by cases h <;> trivial
theorem OwO.hd {K:PySem.W.Frag} {H:Hp} {o:HO} {d:D} {l:Addr} (h:OwO K H o d) (e:H l=some o):HD K H (.ref l) d:=by
 cases h with
 | lst q=>exact .lst (.of e) q
 | dct k q=>exact .dct e k q
noncomputable def fnD:List (D×D)->Bool
 | (.list [],_) :: _=>true
 | _=>false
noncomputable def ShD (K:PySem.W.Frag) (A:List Addr) (H:Hp) (v:V) (d:D):Prop:=HD K (wo H A) v d \/ ∃ l o,v=.ref l /\ H l=some o /\ OwO K (wo H A) o d
section
variable {K:PySem.W.Frag} {H H':Hp} {A A':List Addr} {v:V} {d:D}
theorem ShD.of (h:HD K (wo H A) v d):ShD K A H v d:=.inl h
theorem ShD.same (s:Same H H') (h:ShD K A H v d):ShD K A H' v d:=by
 rcases h with h | ⟨l,o,rfl,e,q⟩
 ·exact .inl (h.same (zaK s))
 ·exact .inr ⟨l,o,rfl,s _ _ e,q.same (zaK s)⟩
theorem ShD.isD (h:ShD K A H v d):HD K H v d:=by
 rcases h with h | ⟨l,o,rfl,e,q⟩
 ·exact h.same zah
 ·exact (q.same zah).hd e
theorem ShD.list {ds:List D} (h:ShD K A H v (.list ds)):∃ l ys,v=.ref l /\ LsD K H l ys /\ HDs K (wo H A) ys ds:=by
 rcases h with h | ⟨l,o,rfl,e,q⟩
 ·cases h with
  | lst hq h=>exact ⟨_,_,rfl,hq.same zah,h⟩
 ·cases q with
  | lst q=>exact ⟨l,_,rfl,.of e,q⟩
theorem ShD.tupH {ds:List D} (h:ShD K A H v (.tuple ds)):∃ l ys,v=.ref l /\ TupT H l ys /\ HDs K (wo H A) ys ds:=by
 rcases h with h | ⟨l,o,rfl,e,q⟩
 ·cases h with
  | tup hq h=>exact ⟨_,_,rfl,zah.tupT hq,h⟩
 ·cases q
theorem ShD.tuple {ds:List D} (h:ShD K A H v (.tuple ds)):∃ l ys,v=.ref l /\ SqT K H l ys /\ HDs K (wo H A) ys ds:=
 let ⟨l,ys,a,b,c⟩:=h.tupH; ⟨l,ys,a,.inl b,c⟩
theorem ShD.dict {kds:List (D×D)} (h:ShD K A H v (.dict kds)) (hf:fnD kds=false):∃ l kvs,v=.ref l /\ H l=some (.dT kvs) /\ kds.map (·.1)=kvs.map (fun p=>PyData.tuple (p.1.map keyD)) /\ HDs K (wo H A) (kvs.map (·.2)) (kds.map (·.2)):=by
 rcases h with h | ⟨l,o,rfl,e,q⟩
 ·cases h with
  | dct hq k h=>exact ⟨_,_,rfl,zah _ _ hq,k,h⟩
  | exc _ _=>cases hf
  | fn hq=>cases hf
 ·cases q with
  | dct k q=>exact ⟨l,_,rfl,e,k,q⟩
theorem ShD.fz {ds:List D} (h:ShD K A H v (.tuple ds)):HD K (wo H A) v (.tuple ds):=by
 rcases h with h | ⟨l,o,rfl,e,q⟩
 ·exact h
 ·cases q
theorem ShD.int {i:Int} (h:ShD K A H v (.int i)):v=.int i:=by
 rcases h with h | ⟨l,o,rfl,e,q⟩
 ·cases h; rfl
 ·cases q
theorem ShD.bool {b:Bool} (h:ShD K A H v (.bool b)):v=.bl b:=by
 rcases h with h | ⟨l,o,rfl,e,q⟩
 ·cases h; rfl
 ·cases q
theorem ShD.str {b:Str} (h:ShD K A H v (.str b)):v=.str b:=by
 rcases h with h | ⟨l,o,rfl,e,q⟩
 ·cases h; rfl
 ·cases q
theorem ShD.non (h:ShD K A H v .none):v=.non:=by
 rcases h with h | ⟨l,o,rfl,e,q⟩
 ·cases h; rfl
 ·cases q
end
structure Rel (K:PySem.W.Frag) (O:List Nat) (U A0:List Addr) (σ:St) (δ:DS) (H:Hp):Prop where
 len:σ.length=δ.length
 fz:∀ (i:Nat) d,i∉O->δ[i]?=some (some d)->∃ v,σ[i]?=some (some v) /\ HD K (wo H (U ++ A0)) v d
 ow:∀ (i:Nat) d,i∈O->δ[i]?=some (some d)->∃ l o,σ[i]?=some (some (.ref l)) /\ l∈U /\ H l=some o /\ OwO K (wo H (U ++ A0)) o d
 inj:∀ (i j:Nat) d e l,i∈O->j∈O->i≠j->δ[i]?=some (some d)->δ[j]?=some (some e)->σ[i]?=some (some (.ref l))->σ[j]?=some (some (.ref l))->False
 al:Ls (U ++ A0) H
section
variable {K:PySem.W.Frag} {O:List Nat} {U A0:List Addr} {σ:St} {δ:DS} {H H':Hp}
theorem Rel.same (R:Rel K O U A0 σ δ H) (s:Same H H'):Rel K O U A0 σ δ H' where
 len:=R.len
 fz:=fun i d hi e=>let ⟨v,a,b⟩:=R.fz i d hi e; ⟨v,a,b.same (zaK s)⟩
 ow:=fun i d hi e=>let ⟨l,o,a,c,f,g⟩:=R.ow i d hi e; ⟨l,o,a,c,s _ _ f,g.same (zaK s)⟩
 inj:=R.inj
 al:=R.al.same s
theorem Rel.owL (R:Rel K O U A0 σ δ H) (i:Nat) (d:D) (hi:i∈O) (e:δ[i]?=some (some d)):(∃ l ys ds,σ[i]?=some (some (.ref l)) /\ d=.list ds /\ l∈U /\ H l=some (.lst ys) /\ HDs K (wo H (U ++ A0)) ys ds) \/ ∃ kds,d=.dict kds:=by
 obtain ⟨l,o,a,c,f,g⟩:=R.ow i d hi e
 cases g with
 | lst q=>exact .inl ⟨l,_,_,a,rfl,c,f,q⟩
 | dct k q=>exact .inr ⟨_,rfl⟩
theorem Rel.at (R:Rel K O U A0 σ δ H) {i:Nat} {d:D} (e:δ[i]?=some (some d)):∃ v,σ[i]?=some (some v) /\ ShD K (U ++ A0) H v d:=by
 by_cases hi:i∈O
 ·obtain ⟨l,o,a,c,f,g⟩:=R.ow i d hi e
  exact ⟨_,a,.inr ⟨l,o,rfl,f,g⟩⟩
 ·obtain ⟨v,a,b⟩:=R.fz i d hi e
  exact ⟨v,a,.inl b⟩
theorem Rel.set (R:Rel K O U A0 σ δ H) {i:Nat} {v:V} {d:D} (hi:i∉O) (h:HD K (wo H (U ++ A0)) v d):Rel K O U A0 (σ.set i (some v)) (δ.set i (some d)) H where
 len:=by rw [List.length_set,List.length_set]; exact R.len
 fz:=fun j e hj q=>by
  by_cases hij:i=j
  ·subst hij
   have hl:i < δ.length:=by have:=(List.getElem?_eq_some_iff.mp q).1; rwa [List.length_set] at this
   rw [List.getElem?_set_self hl] at q
   cases q
   exact ⟨v,List.getElem?_set_self (by rw [R.len]; exact hl),h⟩
  ·rw [List.getElem?_set_ne hij] at q ⊢
   exact R.fz j e hj q
 ow:=fun j e hj q=>by
  have hij:i≠j:=fun z=>hi (z ▸ hj)
  rw [List.getElem?_set_ne hij] at q ⊢
  exact R.ow j e hj q
 inj:=fun j k d e l hj hk hjk q1 q2 e1 e2=>by
  have hij:i≠j:=fun z=>hi (z ▸ hj)
  have hik:i≠k:=fun z=>hi (z ▸ hk)
  rw [List.getElem?_set_ne hij] at q1 e1
  rw [List.getElem?_set_ne hik] at q2 e2
  exact R.inj j k d e l hj hk hjk q1 q2 e1 e2
 al:=R.al
theorem Rel.setO (R:Rel K O U A0 σ δ H) (s:Same H H') {i:Nat} {r:Addr} {ob:HO} {db:D} (hr:H r=none) (h:H' r=some ob) (q:OwO K (wo H' (r :: (U ++ A0))) ob db) (hi:i∈O):
  Rel K O (r :: U) A0 (σ.set i (some (.ref r))) (δ.set i (some db)) H' where
 len:=by rw [List.length_set,List.length_set]; exact R.len
 fz:=fun j e hj q=>by
  have hij:i≠j:=fun z=>hj (z ▸ hi)
  rw [List.getElem?_set_ne hij] at q ⊢
  obtain ⟨v,a,b⟩:=R.fz j e hj q
  exact ⟨v,a,b.same (zjA s hr)⟩
 ow:=fun j e hj w=>by
  by_cases hij:i=j
  ·subst hij
   have hl:i < δ.length:=by have:=(List.getElem?_eq_some_iff.mp w).1; rwa [List.length_set] at this
   rw [List.getElem?_set_self hl] at w
   cases w
   exact ⟨r,ob,List.getElem?_set_self (by rw [R.len]; exact hl),by simp,h,q⟩
  ·rw [List.getElem?_set_ne hij] at w ⊢
   obtain ⟨l,o,a,c,f,g⟩:=R.ow j e hj w
   exact ⟨l,o,a,by simp [c],s _ _ f,g.same (zjA s hr)⟩
 inj:=fun j k d e l hj hk hjk q1 q2 e1 e2=>by
  have len1:∀ {x:D},(δ.set i (some db))[i]?=some (some x)->i < δ.length:=fun w=>by have:=(List.getElem?_eq_some_iff.mp w).1; rwa [List.length_set] at this
  by_cases hij:i=j
  ·subst hij
   have hik:i≠k:=hjk
   rw [List.getElem?_set_self (by rw [R.len]; exact len1 q1)] at e1
   rw [List.getElem?_set_ne hik] at q2 e2
   cases e1
   obtain ⟨l,o,a,c,f,g⟩:=R.ow k e hk q2
   rw [a] at e2; cases e2
   rw [hr] at f; cases f
  ·by_cases hik:i=k
   ·subst hik
    rw [List.getElem?_set_self (by rw [R.len]; exact len1 q2)] at e2
    rw [List.getElem?_set_ne hij] at q1 e1
    cases e2
    obtain ⟨l,o,a,c,f,g⟩:=R.ow j d hj q1
    rw [a] at e1; cases e1
    rw [hr] at f; cases f
   ·rw [List.getElem?_set_ne hij] at q1 e1
    rw [List.getElem?_set_ne hik] at q2 e2
    exact R.inj j k d e l hj hk hjk q1 q2 e1 e2
 al:=⟨fun a ha=>by
  rcases List.mem_append.mp ha with z | z
  ·rcases List.mem_cons.mp z with z | z
   ·subst z; exact ⟨ob,h,q.own⟩
   ·exact (R.al.same s).1 a (List.mem_append_left _ z)
  ·exact (R.al.same s).1 a (List.mem_append_right _ z),(R.al.same s).2⟩
theorem Rel.setN (R:Rel K O U A0 σ δ H) (s:Same H H') {i:Nat} {r:Addr} {ys:List V} {ds:List D} (hr:H r=none) (h:H' r=some (.lst ys)) (q:HDs K (wo H' (r :: (U ++ A0))) ys ds) (hi:i∈O):
  Rel K O (r :: U) A0 (σ.set i (some (.ref r))) (δ.set i (some (.list ds))) H':=R.setO s hr h (.lst q) hi
theorem Rel.putO (R:Rel K O U A0 σ δ H) {i:Nat} {l:Addr} {ob:HO} {db:D} (hi:i∈O) (hl:σ[i]?=some (some (.ref l))) (hU:l∈U) (q:OwO K (wo H (U ++ A0)) ob db) (hd:∃ d,δ[i]?=some (some d)):
  Rel K O U A0 σ (δ.set i (some db)) (upd H l ob):=by
 have hw:wo (upd H l ob) (U ++ A0)=wo H (U ++ A0):=zlh (List.mem_append_left _ hU)
 obtain ⟨d0,hd⟩:=hd
 have hlen:i < δ.length:=(List.getElem?_eq_some_iff.mp hd).1
 exact {
  len:=by rw [List.length_set]; exact R.len
  fz:=fun j e hj w=>by
   have hij:i≠j:=fun z=>hj (z ▸ hi)
   rw [List.getElem?_set_ne hij] at w
   rw [hw]
   exact R.fz j e hj w
  ow:=fun j e hj w=>by
   rw [hw]
   by_cases hij:i=j
   ·subst hij
    rw [List.getElem?_set_self hlen] at w
    cases w
    exact ⟨l,ob,hl,hU,zH,q⟩
   ·rw [List.getElem?_set_ne hij] at w
    obtain ⟨l',o',a,c,f,g⟩:=R.ow j e hj w
    have hne:l'≠l:=by
     intro z; subst z
     exact R.inj i j d0 e _ hi hj hij hd w hl a
    exact ⟨l',o',a,c,by rw [zt hne]; exact f,g⟩
  inj:=fun j k d e l hj hk hjk q1 q2 e1 e2=>by
   have f:∀ {m:Nat} {x:D},(δ.set i (some db))[m]?=some (some x)->∃ y,δ[m]?=some (some y):=by
    intro m x w
    by_cases him:i=m
    ·subst him; exact ⟨d0,hd⟩
    ·rw [List.getElem?_set_ne him] at w; exact ⟨x,w⟩
   obtain ⟨y1,w1⟩:=f q1
   obtain ⟨y2,w2⟩:=f q2
   exact R.inj j k y1 y2 l hj hk hjk w1 w2 e1 e2
  al:=⟨fun a ha=>by
   by_cases e:a=l
   ·subst e; exact ⟨ob,zH,q.own⟩
   ·rw [zt e]; exact R.al.1 a ha,fun p xs m=>
    let ⟨_,e,w⟩:=R.al.1 l (List.mem_append_left _ hU)
    (R.al.2.1 p xs m).ne ((R.al.2.1 p xs m).apart e w),fun p y q m=>by
    obtain ⟨_,e,w⟩:=R.al.1 l (List.mem_append_left _ hU)
    rw [zt fun z=>?_]
    ·exact R.al.2.2 p y q m
    ·have t:=R.al.2.2 p y q m
     rw [z,e] at t; cases t; exact w⟩ }
theorem Rel.put (R:Rel K O U A0 σ δ H) {i:Nat} {l:Addr} {ys:List V} {ds:List D} (hi:i∈O) (hl:σ[i]?=some (some (.ref l))) (hU:l∈U) (q:HDs K (wo H (U ++ A0)) ys ds) (hd:∃ d,δ[i]?=some (some d)):
  Rel K O U A0 σ (δ.set i (some (.list ds))) (upd H l (.lst ys)):=R.putO hi hl hU (.lst q) hd
end
structure Fx (H0:Hp) (A0 U:List Addr) (H:Hp):Prop where
 same:Same H0 H
 new:∀ a∈U,H0 a=none
 old:Ls A0 H0
section
variable {K:PySem.W.Frag} {O:List Nat} {U U' A0:List Addr} {σ:St} {δ:DS} {H0 H H':Hp}
theorem Fx.grow (F:Fx H0 A0 U H) (s:Same H H'):Fx H0 A0 U H':=⟨F.same.trans s,F.new,F.old⟩
theorem Fx.more (F:Fx H0 A0 U H) (s:Same H H') {r:Addr} (hr:H r=none):Fx H0 A0 (r :: U) H':=⟨F.same.trans s,fun a ha=>by
 rcases List.mem_cons.mp ha with z | z
 ·subst z; exact F.same.free hr
 ·exact F.new a z,F.old⟩
theorem Fx.put (F:Fx H0 A0 U H) {l:Addr} (hl:l∈U) (o:HO):Fx H0 A0 U (upd H l o):=⟨F.same.upd (F.new l hl) o,F.new,F.old⟩
theorem Fx.out (F:Fx H0 A0 U H) {l:Addr} (hl:l∈U):l∉A0:=fun z=>by
 obtain ⟨ys,e,_⟩:=F.old.1 l z
 rw [F.new l hl] at e; cases e
theorem Fx.here (F:Fx H0 A0 U H):Fx (wo H U) A0 U H:=⟨zah,fun _ h=>zdl h,fun a ha=>by
 obtain ⟨ys,e,q⟩:=F.old.1 a ha
 refine ⟨ys,?_,q⟩
 rw [zT fun z=>?_]
 ·exact F.same _ _ e
 ·exact F.out z ha,fun p xs m=>(F.same.tupT (F.old.2.1 p xs m)).wo fun z=>(by
 rcases F.old.2.1 p xs m with t | ⟨ob,t⟩ <;> rw [F.new p z] at t <;> cases t),fun p y q m=>by
 rw [zT fun z=>?_]
 ·exact F.same _ _ (F.old.2.2 p y q m)
 ·have t:=F.old.2.2 p y q m
  rw [F.new p z] at t; cases t⟩
theorem Fx.trans (F:Fx H0 A0 U H) (G:Fx (wo H U) A0 U' H'):Fx H0 A0 U' H':=by
 have k:∀ a o,H0 a=some o->wo H U a=some o:=fun a o e=>by
  rw [zT fun z=>?_]
  ·exact F.same _ _ e
  ·rw [F.new a z] at e; cases e
 refine ⟨fun a o e=>G.same _ _ (k a o e),fun a ha=>?_,F.old⟩
 cases e:H0 a with
 | none=>rfl
 | some o=>
   have:=G.new a ha
   rw [k a o e] at this; cases this
theorem Fx.keeps (G:Fx (wo H U) A0 U' H'):Same (wo H (U ++ A0)) (wo H' (U' ++ A0)):=fun b o e=>by
 obtain ⟨h1,h2⟩:=zb4 e
 simp only [List.mem_append,not_or] at h1
 have h3:wo H U b=some o:=by rw [zT h1.1]; exact h2
 rw [zT]
 ·exact G.same _ _ h3
 ·simp only [List.mem_append,not_or]
  refine ⟨fun z=>?_,h1.2⟩
  rw [G.new b z] at h3; cases h3
end
noncomputable def tE (K:PySem.W.Frag) (O:List Nat) (g:DS->Option D):TE:=fun σ H Q=>∃ U A0 δ d,Rel K O U A0 σ δ H /\ g δ=some d /\ ∀ v H',Same H H'->HD K (wo H' (U ++ A0)) v d->Q v H'
theorem tE.e {K:PySem.W.Frag} {O:List Nat} {g:DS->Option D}  {σ:_} {H:_} {Q:_} {GG:Prop} (hh:tE K O g σ H Q) (kk:∀ U A0 δ d,(Rel K O U A0 σ δ H)->(g δ=some d)->(∀ v H',Same H H'->HD K (wo H' (U ++ A0)) v d->Q v H')->GG):GG:=by obtain ⟨U,A0,δ,d,x0,x1,x2⟩:=hh; exact kk U A0 δ d x0 x1 x2
noncomputable def tSh (K:PySem.W.Frag) (O:List Nat) (g:DS->Option D):TE:=fun σ H Q=>∃ U A0 δ d,Rel K O U A0 σ δ H /\ g δ=some d /\ ∀ v H',Same H H'->ShD K (U ++ A0) H' v d->Q v H'
theorem tSh.e {K:PySem.W.Frag} {O:List Nat} {g:DS->Option D}  {σ:_} {H:_} {Q:_} {GG:Prop} (hh:tSh K O g σ H Q) (kk:∀ U A0 δ d,(Rel K O U A0 σ δ H)->(g δ=some d)->(∀ v H',Same H H'->ShD K (U ++ A0) H' v d->Q v H')->GG):GG:=by obtain ⟨U,A0,δ,d,x0,x1,x2⟩:=hh; exact kk U A0 δ d x0 x1 x2
noncomputable def tN (K:PySem.W.Frag) (O:List Nat) (g:DS->Option (List D)):TE:=fun σ H Q=>∃ U A0 δ ds,Rel K O U A0 σ δ H /\ g δ=some ds /\
 ∀ r ys H',Same H H'->H r=none->H' r=some (.lst ys)->HDs K (wo H' (r :: (U ++ A0))) ys ds->Q (.ref r) H'
theorem tN.e {K:PySem.W.Frag} {O:List Nat} {g:DS->Option (List D)}  {σ:_} {H:_} {Q:_} {GG:Prop} (hh:tN K O g σ H Q) (kk:∀ U A0 δ ds,(Rel K O U A0 σ δ H)->(g δ=some ds)->(∀ r ys H',Same H H'->H r=none->H' r=some (.lst ys)->HDs K (wo H' (r :: (U ++ A0))) ys ds->Q (.ref r) H')->GG):GG:=by obtain ⟨U,A0,δ,ds,x0,x1,x2⟩:=hh; exact kk U A0 δ ds x0 x1 x2
noncomputable def tT (K:PySem.W.Frag) (O:List Nat) (g:DS->Option Bool):TT:=fun σ H Q=>∃ U A0 δ b,Rel K O U A0 σ δ H /\ g δ=some b /\ ∀ H',Same H H'->Q b H'
theorem tT.e {K:PySem.W.Frag} {O:List Nat} {g:DS->Option Bool}  {σ:_} {H:_} {Q:_} {GG:Prop} (hh:tT K O g σ H Q) (kk:∀ U A0 δ b,(Rel K O U A0 σ δ H)->(g δ=some b)->(∀ H',Same H H'->Q b H')->GG):GG:=by obtain ⟨U,A0,δ,b,x0,x1,x2⟩:=hh; exact kk U A0 δ b x0 x1 x2
noncomputable def tAs (K:PySem.W.Frag) (O:List Nat) (g:DS->Option (List D)):TA:=fun σ H Q=>∃ U A0 δ ds,Rel K O U A0 σ δ H /\ g δ=some ds /\ ∀ vs H',Same H H'->HDs K (wo H' (U ++ A0)) vs ds->Q vs H'
theorem tAs.e {K:PySem.W.Frag} {O:List Nat} {g:DS->Option (List D)}  {σ:_} {H:_} {Q:_} {GG:Prop} (hh:tAs K O g σ H Q) (kk:∀ U A0 δ ds,(Rel K O U A0 σ δ H)->(g δ=some ds)->(∀ vs H',Same H H'->HDs K (wo H' (U ++ A0)) vs ds->Q vs H')->GG):GG:=by obtain ⟨U,A0,δ,ds,x0,x1,x2⟩:=hh; exact kk U A0 δ ds x0 x1 x2
noncomputable def ShDs (K:PySem.W.Frag) (A:List Addr) (H:Hp):List V->List D->Prop:=Paired (ShD K A H)
noncomputable def tAsh (K:PySem.W.Frag) (O:List Nat) (g:DS->Option (List D)):TA:=fun σ H Q=>∃ U A0 δ ds,Rel K O U A0 σ δ H /\ g δ=some ds /\ ∀ vs H',Same H H'->ShDs K (U ++ A0) H' vs ds->Q vs H'
theorem tAsh.e {K:PySem.W.Frag} {O:List Nat} {g:DS->Option (List D)}  {σ:_} {H:_} {Q:_} {GG:Prop} (hh:tAsh K O g σ H Q) (kk:∀ U A0 δ ds,(Rel K O U A0 σ δ H)->(g δ=some ds)->(∀ vs H',Same H H'->ShDs K (U ++ A0) H' vs ds->Q vs H')->GG):GG:=by obtain ⟨U,A0,δ,ds,x0,x1,x2⟩:=hh; exact kk U A0 δ ds x0 x1 x2
inductive Res where
 | nx (δ:DS) | rt (d:D) | bk (δ:DS) | ct (δ:DS)
noncomputable def RetR (K:PySem.W.Frag) (fr:Bool) (H0:Hp) (A0:List Addr) (v:V) (d:D) (H':Hp):Prop:=
 if fr=true then ∃ r o,v=.ref r /\ Same H0 H' /\ H0 r=none /\ H' r=some o /\ OwO K (wo H' (r :: A0)) o d else Same H0 H' /\ HD K (wo H' A0) v d
noncomputable def rxD (c:Str):D:=.dict [(.none,.str c)]
noncomputable abbrev Fr:=Bool×(Str->Hp->Prop)
noncomputable def Post (K:PySem.W.Frag) (O:List Nat) (fr:Fr) (H0:Hp) (A0:List Addr) (E:Ends):Res->Prop
 | .nx δ=>∀ U σ H,Rel K O U A0 σ δ H->Fx H0 A0 U H->E.nx σ H
 | .bk δ=>∀ U σ H,Rel K O U A0 σ δ H->Fx H0 A0 U H->E.bk σ H
 | .ct δ=>∀ U σ H,Rel K O U A0 σ δ H->Fx H0 A0 U H->E.ct σ H
 | .rt d=>(∀ v H,RetR K fr.1 H0 A0 v d H->E.rt v H) /\ ∀ c H,d=rxD c->Same H0 H->fr.2 c H
noncomputable def tS (K:PySem.W.Frag) (O:List Nat) (fr:Fr) (g:DS->Option Res):TS:=fun E σ H=>∃ H0 U A0 δ r,Rel K O U A0 σ δ H /\ Fx H0 A0 U H /\ g δ=some r /\ Post K O fr H0 A0 E r
theorem tS.e {K:PySem.W.Frag} {O:List Nat} {fr:Fr} {g:DS->Option Res}  {E:_} {σ:_} {H:_} {GG:Prop} (hh:tS K O fr g E σ H) (kk:∀ H0 U A0 δ r,(Rel K O U A0 σ δ H)->(Fx H0 A0 U H)->(g δ=some r)->(Post K O fr H0 A0 E r)->GG):GG:=by obtain ⟨H0,U,A0,δ,r,x0,x1,x2,x3⟩:=hh; exact kk H0 U A0 δ r x0 x1 x2 x3
noncomputable def Walks (K:PySem.W.Frag) (A:List Addr) (H1:Hp) (J:It) (ds:List D):Prop:=∀ (A':List Addr) (i:Nat) (H:Hp),Same (wo H1 A) (wo H A')->Ls A' H->
 (∀ d,ds[i]?=some d->J.go i H /\ ∀ x H2,J.yld i H x H2->Same H H2 /\ HD K (wo H2 A') x d) /\ (i=ds.length->J.stop i H)
noncomputable def tI (K:PySem.W.Frag) (O:List Nat) (g:DS->Option (List D)):TI:=fun σ H R=>∃ U A0 δ ds,Rel K O U A0 σ δ H /\ g δ=some ds /\ ∀ J H1,Same H H1->Walks K (U ++ A0) H1 J ds->R J H1
theorem tI.e {K:PySem.W.Frag} {O:List Nat} {g:DS->Option (List D)}  {σ:_} {H:_} {R:_} {GG:Prop} (hh:tI K O g σ H R) (kk:∀ U A0 δ ds,(Rel K O U A0 σ δ H)->(g δ=some ds)->(∀ J H1,Same H H1->Walks K (U ++ A0) H1 J ds->R J H1)->GG):GG:=by obtain ⟨U,A0,δ,ds,x0,x1,x2⟩:=hh; exact kk U A0 δ ds x0 x1 x2
noncomputable def tG (K:PySem.W.Frag) (O:List Nat) (g:D->DS->Option DS):TG:=fun v σ H Q=>∃ U A0 δ d δ',Rel K O U A0 σ δ H /\ HD K (wo H (U ++ A0)) v d /\ g d δ=some δ' /\ ∀ σ',Rel K O U A0 σ' δ' H->Q σ' H
theorem tG.e {K:PySem.W.Frag} {O:List Nat} {g:D->DS->Option DS}  {v:_} {σ:_} {H:_} {Q:_} {GG:Prop} (hh:tG K O g v σ H Q) (kk:∀ U A0 δ d δ',(Rel K O U A0 σ δ H)->(HD K (wo H (U ++ A0)) v d)->(g d δ=some δ')->(∀ σ',Rel K O U A0 σ' δ' H->Q σ' H)->GG):GG:=by obtain ⟨U,A0,δ,d,δ',x0,x1,x2,x3⟩:=hh; exact kk U A0 δ d δ' x0 x1 x2 x3
end L2
namespace L2
open PySem PySem.Spec PyProof.Rows
section
variable {X:Cx}
theorem PE.mono {e:Expr} {t t':TE} (h:PE X e t) (m:∀ σ H Q,t' σ H Q->t σ H Q):PE X e t':=fun pins s σ H Q I q=>h pins s σ H Q I (m σ H Q q)
theorem PT.mono {e:Expr} {t t':TT} (h:PT X e t) (m:∀ σ H Q,t' σ H Q->t σ H Q):PT X e t':=fun pins s σ H Q I q=>h pins s σ H Q I (m σ H Q q)
theorem PW.mono {e:Expr} {t t':TT} (h:PW X e t) (m:∀ σ H Q,t' σ H Q->t σ H Q):PW X e t':=fun w pins s σ H Q I q=>h w pins s σ H Q I (m σ H Q q)
theorem PA.mono {e:List Expr} {t t':TA} (h:PA X e t) (m:∀ σ H Q,t' σ H Q->t σ H Q):PA X e t':=fun pos pins s σ H Q I q=>h pos pins s σ H Q I (m σ H Q q)
theorem PS.mono {e:Stmt} {t t':TS} (h:PS X e t) (m:∀ E σ H,t' E σ H->t E σ H):PS X e t':=fun pins s σ H E I q=>h pins s σ H E I (m E σ H q)
theorem PSs.mono {e:List Stmt} {t t':TS} (h:PSs X e t) (m:∀ E σ H,t' E σ H->t E σ H):PSs X e t':=fun pins s σ H E I q=>h pins s σ H E I (m E σ H q)
theorem PI.mono {tg e:Expr} {t t':TI} (h:PI X tg e t) (m:∀ σ H R,t' σ H R->t σ H R):PI X tg e t':=fun pins s σ H R I q=>h pins s σ H R I (m σ H R q)
theorem PG.mono {e:Expr} {t t':TG} (h:PG X e t) (m:∀ v σ H Q,t' v σ H Q->t v σ H Q):PG X e t':=fun pins s σ H v u Q I r q=>h pins s σ H v u Q I r (m v σ H Q q)
theorem PO.mono {e:Option Expr} {t t':TO} (h:PO X e t) (m:∀ σ H Q,t' σ H Q->t σ H Q):PO X e t':=fun pins s σ H Q I q=>h pins s σ H Q I (m σ H Q q)
end
noncomputable def gVar (i:Nat):DS->Option D:=fun δ=>(δ[i]?).join
noncomputable def gC (d:D):DS->Option D:=fun _=>some d
noncomputable def gLst (g:DS->Option (List D)):DS->Option D:=fun δ=>(g δ).map .list
theorem zy {α:Type} {o:Option (Option α)} {d:α} (h:o.join=some d):o=some (some d):=by
 cases o with
 | none=>cases h
 | some p=>cases p with
   | none=>cases h
   | some q=>cases h; rfl
section
variable {X:Cx} {O:List Nat} {e:Expr} {g:DS->Option D}
theorem zh {i:Nat} (h:PE X e (tVar i)) (hi:i∉O:=by decide):PE X e (tE X.K O (gVar i)):=h.mono fun σ H Q hh=>hh.e fun U A0 δ d R ed q=>by
 obtain ⟨v,hv,hd⟩:=R.fz i d hi (zy ed)
 exact ⟨v,hv,q v H (Same.refl H) hd⟩
theorem zc {i:Nat} (h:PE X e (tVar i)):PE X e (tSh X.K O (gVar i)):=h.mono fun σ H Q hh=>hh.e fun U A0 δ d R ed q=>by
 obtain ⟨v,hv,hd⟩:=R.at (zy ed)
 exact ⟨v,hv,q v H (Same.refl H) hd⟩
theorem pd_c {v:V} {d:D} (h:PE X e (tC v)) (hd:∀ H,HD X.K H v d):PE X e (tE X.K O (gC d)):=h.mono fun σ H Q hh=>hh.e fun U A0 δ d' R ed q=>by
 cases ed
 exact q v H (Same.refl H) (hd _)
theorem ze {i:Int} (h:PE X e (tC (.int i))):PE X e (tE X.K O (gC (.int i))):=pd_c h fun _=>.int i
theorem zmw {i:Bool} (h:PE X e (tC (.bl i))):PE X e (tE X.K O (gC (.bool i))):=pd_c h fun _=>.bl i
theorem zbC {i:Str} (h:PE X e (tC (.str i))):PE X e (tE X.K O (gC (.str i))):=pd_c h fun _=>.str i
theorem zjD (h:PE X e (tC .non)):PE X e (tE X.K O (gC .none)):=pd_c h fun _=>.non
theorem PE.sh (h:PE X e (tE X.K O g)):PE X e (tSh X.K O g):=h.mono fun σ H Q hh=>hh.e fun U A0 δ d R ed q=>⟨U,A0,δ,d,R,ed,fun v H' s z=>q v H' s (.inl z)⟩
theorem znH {K:PySem.W.Frag} {g:DS->Option (List D)} {σ:St} {H:Hp} {Q:VK}:tE K O (gLst g) σ H Q->tN K O g σ H Q:=fun ⟨U,A0,δ,d,R,ed,q⟩=>by
 unfold gLst at ed
 cases eg:g δ with
 | none=>rw [eg] at ed; cases ed
 | some ds=>
   rw [eg] at ed; cases ed
   refine ⟨U,A0,δ,ds,R,eg,fun r ys H' s hr h1 h2=>q _ H' s ?_⟩
   have hn:=R.al.free hr
   exact .lst (.of (by rw [zT hn]; exact h1)) (h2.same (zde fun a ha=>List.mem_cons_of_mem _ ha))
theorem PE.nE {g:DS->Option (List D)} (h:PE X e (tN X.K O g)):PE X e (tE X.K O (gLst g)):=h.mono fun _ _ _=>znH
end
noncomputable def g2 (f:D->D->Option D) (a b:DS->Option D):DS->Option D:=fun δ=>(a δ).bind fun x=>(b δ).bind fun y=>f x y
noncomputable def g2N (f:D->D->Option (List D)) (a b:DS->Option D):DS->Option (List D):=fun δ=>(a δ).bind fun x=>(b δ).bind fun y=>f x y
noncomputable def Imp2 (K:PySem.W.Frag) (r:R2) (f:D->D->Option D):Prop:=∀ (A:List Addr) (H:Hp) (x y:V) (dx dy d:D) (Q:VK),Ls A H->ShD K A H x dx->ShD K A H y dy->f dx dy=some d->(∀ v H',Same H H'->HD K (wo H' A) v d->Q v H')->r x y H Q
noncomputable def Imp2N (K:PySem.W.Frag) (r:R2) (f:D->D->Option (List D)):Prop:=∀ (A:List Addr) (H:Hp) (x y:V) (dx dy:D) (ds:List D) (Q:VK),Ls A H->ShD K A H x dx->ShD K A H y dy->f dx dy=some ds->
 (∀ p ys,H p=none->HDs K (wo H A) ys ds->Q (.ref p) (upd H p (.lst ys)))->r x y H Q
theorem bind2 {α β γ:Type} {a:Option α} {b:Option β} {f:α->β->Option γ} {d:γ} (h:(a.bind fun x=>b.bind fun y=>f x y)=some d):∃ x y,a=some x /\ b=some y /\ f x y=some d:=by
 cases a with
 | none=>cases h
 | some x=>cases b with
   | none=>cases h
   | some y=>exact ⟨x,y,rfl,rfl,h⟩
theorem bind1 {α β:Type} {a:Option α} {f:α->Option β} {d:β} (h:a.bind f=some d):∃ x,a=some x /\ f x=some d:=by
 cases a with
 | none=>cases h
 | some x=>exact ⟨x,rfl,h⟩
section
variable {X:Cx} {O:List Nat} {a b:Expr} {ga gb:DS->Option D} {pos:Pos} {r:R2}
theorem zkD {K:PySem.W.Frag} {f:D->D->Option D} (imp:Imp2 K r f) {σ:St} {H:Hp} {Q:VK}:tE K O (g2 f ga gb) σ H Q->tOp r (tSh K O ga) (tSh K O gb) σ H Q:=fun ⟨U,A0,δ,d,R,ed,q⟩=>by
 obtain ⟨x,y,ex,ey,ef⟩:=bind2 ed
 exact ⟨U,A0,δ,x,R,ex,fun v1 H1 s1 h1=>⟨U,A0,δ,y,R.same s1,ey,fun v2 H2 s2 h2=>imp _ H2 v1 v2 x y d Q (R.same (s1.trans s2)).al (h1.same s2) h2 ef fun v H' s h=>q v H' ((s1.trans s2).trans s) h⟩⟩
theorem zjC {K:PySem.W.Frag} {A:List Addr} {H H2:Hp} {ds:List D} {Q:VK} (s:Same H H2) (q:∀ r ys H',Same H H'->H r=none->H' r=some (.lst ys)->HDs K (wo H' (r :: A)) ys ds->Q (.ref r) H'):∀ p ys,H2 p=none->HDs K (wo H2 A) ys ds->Q (.ref p) (upd H2 p (.lst ys)):=
 fun p ys hp h=>q p ys _ (s.trans (z0 hp _)) (s.free hp) zH (by rw [zgy hp]; exact h)
theorem zou {K:PySem.W.Frag} {f:D->D->Option (List D)} (imp:Imp2N K r f) {σ:St} {H:Hp} {Q:VK}:tN K O (g2N f ga gb) σ H Q->tOp r (tSh K O ga) (tSh K O gb) σ H Q:=fun ⟨U,A0,δ,d,R,ed,q⟩=>by
 obtain ⟨x,y,ex,ey,ef⟩:=bind2 ed
 exact ⟨U,A0,δ,x,R,ex,fun v1 H1 s1 h1=>⟨U,A0,δ,y,R.same s1,ey,fun v2 H2 s2 h2=>imp _ H2 v1 v2 x y d Q (R.same (s1.trans s2)).al (h1.same s2) h2 ef (zjC (s1.trans s2) q)⟩⟩
theorem zn {op:Operator} {f:D->D->Option D} (ho:OpR X (binaryOp op) r) (imp:Imp2 X.K r f) (ha:PE X a (tSh X.K O ga)) (hb:PE X b (tSh X.K O gb)):PE X (.BinOp a op b pos) (tE X.K O (g2 f ga gb)):=(zoc ho ha hb).mono fun _ _ _=>zkD imp
theorem zd4 {op:Operator} {f:D->D->Option (List D)} (ho:OpR X (binaryOp op) r) (imp:Imp2N X.K r f) (ha:PE X a (tSh X.K O ga)) (hb:PE X b (tSh X.K O gb)):PE X (.BinOp a op b pos) (tN X.K O (g2N f ga gb)):=(zoc ho ha hb).mono fun _ _ _=>zou imp
theorem zij {op:CmpOp} {f:D->D->Option D} (ho:OpR X (compareOp op) r) (imp:Imp2 X.K r f) (ha:PE X a (tSh X.K O ga)) (hb:PE X b (tSh X.K O gb)) (hm:behindInMarks op b=false):PE X (.Compare a [op] [b] pos) (tE X.K O (g2 f ga gb)):=(zlq ho ha hb hm).mono fun _ _ _=>zkD imp
noncomputable def gB (g:DS->Option D):DS->Option Bool:=fun δ=>(g δ).bind fun | .bool b=>some b | _=>none
theorem zne {K:PySem.W.Frag} {g:DS->Option D} {te:TE} (m:∀ σ H Q,tE K O g σ H Q->te σ H Q) {σ:St} {H:Hp} {Q:Bool->Hp->Prop}:tT K O (gB g) σ H Q->te σ H fun x H'=>∃ k,x=.bl k /\ Q k H':=fun ⟨U,A0,δ,b,R,ed,q⟩=>by
 obtain ⟨d,e1,e2⟩:=bind1 ed
 cases d with
 | bool c=>
   cases e2
   exact m σ H _ ⟨U,A0,δ,_,R,e1,fun v H' s h=>by cases h; exact ⟨_,rfl,q H' s⟩⟩
 | _=>cases e2
theorem zP {op:CmpOp} {f:D->D->Option D} (ho:OpR X (compareOp op) r) (imp:Imp2 X.K r f) (ha:PE X a (tSh X.K O ga)) (hb:PE X b (tSh X.K O gb)) (hm:behindInMarks op b=false):PT X (.Compare a [op] [b] pos) (tT X.K O (gB (g2 f ga gb))):=(zlt ho ha hb hm).mono fun _ _ _=>zne fun _ _ _=>zkD imp
end
noncomputable def dI (g:Int->Int->D):D->D->Option D
 | .int a,.int b=>some (g a b)
 | _,_=>none
open Classical in
noncomputable def dIc (C:Int->Int->Prop) (g:Int->Int->D):D->D->Option D
 | .int a,.int b=>if C a b then some (g a b) else none
 | _,_=>none
open Classical in
theorem ze3 {C:Int->Int->Prop} {g:Int->Int->D} {a b:Int} (h:C a b):dIc C g (.int a) (.int b)=some (g a b):=by
 show (if C a b then some (g a b) else none)=_
 rw [if_pos h]
theorem zlL {g:Int->Int->D} {a b:Int}:dI g (.int a) (.int b)=some (g a b):=rfl
theorem ze1 {K:PySem.W.Frag} {g:Int->Int->Int}:Imp2 K (rI0 fun i j=>.int (g i j)) (dI fun i j=>.int (g i j)):=by
 intro A H x y dx dy d Q al hx hy e q
 unfold dI at e
 split at e
 ·cases e
  exact ⟨_,_,hx.int,hy.int,q _ H (Same.refl H) (.int _)⟩
 ·cases e
theorem z8 {K:PySem.W.Frag} {g:Int->Int->Bool}:Imp2 K (rI0 fun i j=>.bl (g i j)) (dI fun i j=>.bool (g i j)):=by
 intro A H x y dx dy d Q al hx hy e q
 unfold dI at e
 split at e
 ·cases e
  exact ⟨_,_,hx.int,hy.int,q _ H (Same.refl H) (.bl _)⟩
 ·cases e
set_option tactic.hygienic true in
theorem zp {K:PySem.W.Frag} {C:Int->Int->Prop} {g:Int->Int->Int}:Imp2 K (rI C fun i j=>.int (g i j)) (dIc C fun i j=>.int (g i j)):=by
 intro A H x y dx dy d Q al hx hy e q
 unfold dIc at e
 split at e
 ·split at e
  ·rename_i c
   cases e
   exact ⟨_,_,hx.int,hy.int,c,q _ H (Same.refl H) (.int _)⟩
  ·cases e
 ·cases e
noncomputable abbrev dSub:D->D->Option D:=dI fun i j=>.int (i - j)
noncomputable abbrev dMulI:D->D->Option D:=dIc IntMulOk fun i j=>.int (i * j)
noncomputable abbrev dDiv:D->D->Option D:=dIc CDivS fun i j=>.int (i.fdiv j)
noncomputable abbrev dMod:D->D->Option D:=dIc (fun _ j=>j≠0) fun i j=>.int (i.fmod j)
noncomputable abbrev dPow:D->D->Option D:=dIc CPow fun i j=>.int (i ^ j.toNat)
noncomputable abbrev dLt:D->D->Option D:=dI fun i j=>.bool (decide (i < j))
noncomputable abbrev dLe:D->D->Option D:=dI fun i j=>.bool (decide (i<=j))
noncomputable abbrev dGt:D->D->Option D:=dI fun i j=>.bool (decide (j < i))
noncomputable abbrev dGe:D->D->Option D:=dI fun i j=>.bool (decide (j<=i))
noncomputable def dEq:D->D->Option D
 | .int a,.int b=>some (.bool (decide (a=b)))
 | a,b=>if (SeqAt.shaped a && SeqAt.shaped b)=true then some (.bool (PyData.eqv a b)) else none
noncomputable def dNe:D->D->Option D:=fun a b=>(dEq a b).bind fun | .bool c=>some (.bool (!c)) | _=>none
set_option tactic.hygienic true in
theorem ziM {a b d:D} (h:dEq a b=some d):SeqAt.shaped a=true /\ SeqAt.shaped b=true /\ d=.bool (PyData.eqv a b):=by
 unfold dEq at h
 split at h
 ·cases h
  refine ⟨by simp [SeqAt.shaped,PyData.canLay0,PyData.depth],by simp [SeqAt.shaped,PyData.canLay0,PyData.depth],?_⟩
  rw [PyData.eqv]; rfl
 ·split at h
  ·rename_i c
   rw [Bool.and_eq_true] at c
   cases h
   exact ⟨c.1,c.2,rfl⟩
  ·cases h
noncomputable def rEqH (K:PySem.W.Frag) (neg:Bool):R2:=fun x y H Q=>∃ d e,HD K H x d /\ HD K H y e /\ SeqAt.shaped d=true /\ SeqAt.shaped e=true /\ Q (.bl (if neg=true then !PyData.eqv d e else PyData.eqv d e)) H
section
variable {X:Cx}
theorem zco {k:Nat} (hr:Room k X.A):OpR X (compareOp .Eq) (rEqH X.K false):=by
 intro pins s σ H x y v u Q I rx ry h
 obtain ⟨d,e,h1,h2,s1,s2,q⟩:=h
 obtain ⟨as,r1⟩:=h1.reads I rx (zbT s1)
 obtain ⟨bs,r2⟩:=h2.reads I ry (zbT s2)
 exact eq_dataH r1 r2 s1 s2 hr.units ⟨.bl _,H,I,rfl,q⟩
theorem zjy {k:Nat} (hr:Room k X.A):OpR X (compareOp .NotEq) (rEqH X.K true):=by
 intro pins s σ H x y v u Q I rx ry h
 obtain ⟨d,e,h1,h2,s1,s2,q⟩:=h
 obtain ⟨as,r1⟩:=h1.reads I rx (zbT s1)
 obtain ⟨bs,r2⟩:=h2.reads I ry (zbT s2)
 exact ne_dataH r1 r2 s1 s2 hr.units ⟨.bl _,H,I,rfl,q⟩
end
theorem zcc {K:PySem.W.Frag}:Imp2 K (rEqH K false) dEq:=by
 intro A H x y dx dy d Q al hx hy e q
 obtain ⟨a,b,rfl⟩:=ziM e
 exact ⟨dx,dy,hx.isD,hy.isD,a,b,q _ H (Same.refl H) (.bl _)⟩
theorem ziD {K:PySem.W.Frag}:Imp2 K (rEqH K true) dNe:=by
 intro A H x y dx dy d Q al hx hy e q
 obtain ⟨c,e1,e2⟩:=bind1 e
 obtain ⟨a,b,rfl⟩:=ziM e1
 cases e2
 exact ⟨dx,dy,hx.isD,hy.isD,a,b,q _ H (Same.refl H) (.bl _)⟩
noncomputable def dIsN:D->D->Option D
 | .none,.none=>some (.bool true)
 | _,.none=>some (.bool false)
 | _,_=>none
theorem zl1 {K:PySem.W.Frag} {A:List Addr} {H:Hp} {x:V} {d:D} (h:ShD K A H x d) (hd:d≠.none):x≠.non:=by
 rcases h with h | ⟨l,o,rfl,e,q⟩
 ·cases h <;> first | exact absurd rfl hd | (intro z; cases z)
 ·intro z; cases z
set_option tactic.hygienic true in
theorem zlM {K:PySem.W.Frag}:Imp2 K (fun x y H Q=>y=.non /\ Q (.bl (decide (x=.non))) H) dIsN:=by
 intro A H x y dx dy d Q al hx hy e q
 unfold dIsN at e
 split at e
 ·cases e
  refine ⟨hy.non,?_⟩
  rw [decide_eq_true hx.non]
  exact q _ H (Same.refl H) (.bl _)
 ·rename_i hn
  cases e
  refine ⟨hy.non,?_⟩
  rw [decide_eq_false (zl1 hx fun z=>hn z)]
  exact q _ H (Same.refl H) (.bl _)
 ·cases e
noncomputable def rCatR (K:PySem.W.Frag):R2:=fun x y H Q=>∃ l b xs zs,x=.ref l /\ y=.ref b /\ LsD K H l xs /\ LsD K H b zs /\ xs.length + zs.length<=sizeLine /\ ∀ p,H p=none->Q (.ref p) (upd H p (.lst (xs ++ zs)))
theorem zb0 {X:Cx}:OpR X (binaryOp .Add) (rCatR X.K):=by
 intro pins s σ H x y v u Q I rx ry h
 obtain ⟨l,b,xs,zs,rfl,rfl,hH,hB,hz,q⟩:=h
 cases rx
 cases ry
 obtain ⟨z,its,n,r,e⟩:=I.lsd hH
 obtain ⟨z2,its2,n2,r2,e2⟩:=I.lsd hB
 have hl:=r.length
 have hl2:=r2.length
 refine PySem.P.add_list e e2 ?_ (by rw [List.size_toArray,List.size_toArray]; omega)
 have ea:its.toArray ++ its2.toArray=(its ++ its2).toArray:=by simp
 rw [ea]
 exact ⟨.ref _,_,I.lnew (t':=s.toks) (r.append r2) (by rw [List.length_append]; omega),rfl,q _ I.fresh⟩
noncomputable def dCat:D->D->Option (List D)
 | .list a,.list b=>if a.length + b.length<=100000 then some (a ++ b) else none
 | _,_=>none
set_option tactic.hygienic true in
theorem zb6 {K:PySem.W.Frag}:Imp2N K (rCatR K) dCat:=by
 intro A H x y dx dy ds Q al hx hy e q
 unfold dCat at e
 split at e
 ·split at e
  ·rename_i hz
   cases e
   obtain ⟨l,xs,rfl,h1,h2⟩:=hx.list
   obtain ⟨b,zs,rfl,h3,h4⟩:=hy.list
   have:=h2.len
   have:=h4.len
   exact ⟨l,b,xs,zs,rfl,rfl,h1,h3,small (by omega),fun p hp=>q p _ hp (h2.app h4)⟩
  ·cases e
 ·cases e
noncomputable def dAdd:D->D->Option D
 | .int a,.int b=>some (.int (a + b))
 | .str a,.str b=>if a.length + b.length<=100000 then some (.str (a ++ b)) else none
 | .list a,.list b=>if a.length + b.length<=100000 then some (.list (a ++ b)) else none
 | .tuple a,.tuple b=>if a.length + b.length<=100000 /\ a≠[] then some (.tuple (a ++ b)) else none
 | _,_=>none
noncomputable def rAddU (K:PySem.W.Frag):R2:=fun x y H Q=>rI0 (fun i j=>.int (i + j)) x y H Q \/ (∃ i j,x=.str i /\ y=.str j /\ i.length + j.length<=sizeLine /\ Q (.str (i ++ j)) H) \/ rCatR K x y H Q \/ rCatT K x y H Q
theorem zmS {X:Cx}:OpR X (binaryOp .Add) (rAddU X.K):=znl.or (zhg.or (zb0.or zmf))
theorem HD.newL {K:PySem.W.Frag} {A:List Addr} {H:Hp} {p:Addr} {ys:List V} {ds:List D} (al:Ls A H) (hp:H p=none) (h:HDs K (wo H A) ys ds):HD K (wo (upd H p (.lst ys)) A) (.ref p) (.list ds):=by
 rw [zk6 (al.free hp)]
 have hn:wo H A p=none:=by
  by_cases z:p∈A
  ·exact zdl z
  ·rw [zT z]; exact hp
 exact .lst (.of zH) (h.same (z0 hn _))
theorem HD.newT {K:PySem.W.Frag} {A:List Addr} {H:Hp} {p:Addr} {ys:List V} {ds:List D} (al:Ls A H) (hp:H p=none) (h:HDs K (wo H A) ys ds):HD K (wo (upd H p (.tup ys)) A) (.ref p) (.tuple ds):=by
 rw [zk6 (al.free hp)]
 have hn:wo H A p=none:=by
  by_cases z:p∈A
  ·exact zdl z
  ·rw [zT z]; exact hp
 exact .tup (.inl zH) (h.same (z0 hn _))
set_option tactic.hygienic true in
theorem zlS {K:PySem.W.Frag}:Imp2 K (rAddU K) dAdd:=by
 intro A H x y dx dy d Q al hx hy e q
 unfold dAdd at e
 split at e
 ·cases e
  exact .inl ⟨_,_,hx.int,hy.int,q _ H (Same.refl H) (.int _)⟩
 ·split at e
  ·cases e
   exact .inr (.inl ⟨_,_,hx.str,hy.str,small (by assumption),q _ H (Same.refl H) (.str _)⟩)
  ·cases e
 ·split at e
  ·rename_i hz
   cases e
   refine .inr (.inr (.inl (zb6 (K:=K) A H x y _ _ _ Q al hx hy (show (if _ then some _ else none)=some _ from if_pos hz) fun p ys hp h=>?_)))
   exact q _ _ (z0 hp _) (HD.newL al hp h)
  ·cases e
 ·split at e
  ·rename_i hz
   cases e
   have hx':=hx.fz
   obtain ⟨a,xs,rfl,h1,h2⟩:=hx.tuple
   obtain ⟨b,zs,rfl,h3,h4⟩:=hy.tuple
   have l2:=h2.len
   have l4:=h4.len
   refine .inr (.inr (.inr ⟨a,b,xs,zs,rfl,rfl,h1,h3,?_,small (by omega),fun z=>?_,fun z p hp=>?_⟩))
   ·intro z; subst z; cases h2; exact hz.2 rfl
   ·subst z; cases h4
    rw [List.append_nil] at q
    exact q _ H (Same.refl H) hx'
   ·exact q _ _ (z0 hp _) (HD.newT al hp (h2.app h4))
  ·cases e
 ·cases e
noncomputable def dIx:D->D->Option D
 | .list ds,.int i=>atI ds i
 | .tuple ds,.int i=>atI ds i
 | .str z,.int i=>if z.length<=100000 then (atI z.cps.toList i).map fun c=>.str ⟨#[c]⟩ else none
 | _,_=>none
theorem HDs.atI {K:PySem.W.Frag} {H:Hp} {xs:List V} {ds:List D} {i:Int} {d:D} (h:HDs K H xs ds) (e:atI ds i=some d):∃ v,L2.atI xs i=some v /\ HD K H v d:=by
 unfold L2.atI at e ⊢
 obtain ⟨j,e1,e2⟩:=bind1 e
 rw [h.len,e1]
 obtain ⟨x,hx,q⟩:=h.get e2
 exact ⟨x,hx,q⟩
set_option tactic.hygienic true in
theorem znY {K:PySem.W.Frag}:Imp2 K (rIx K) dIx:=by
 intro A H x y dx dy d Q al hx hy e q
 unfold dIx at e
 split at e
 ·obtain ⟨l,xs,rfl,h1,h2⟩:=hx.list
  obtain ⟨v,e1,e2⟩:=h2.atI e
  exact .inl ⟨l,xs,_,v,rfl,hy.int,h1.sq,e1,q _ H (Same.refl H) e2⟩
 ·obtain ⟨l,xs,rfl,h1,h2⟩:=hx.tuple
  obtain ⟨v,e1,e2⟩:=h2.atI e
  exact .inr (.inl ⟨l,xs,_,v,rfl,hy.int,h1,e1,q _ H (Same.refl H) e2⟩)
 ·split at e
  ·rename_i z i hz
   cases ec:L2.atI z.cps.toList i with
   | none=>rw [ec] at e; cases e
   | some c=>
     rw [ec] at e; cases e
     exact .inr (.inr ⟨z,i,c,hx.str,hy.int,small hz,ec,q _ H (Same.refl H) (.str _)⟩)
  ·cases e
 ·cases e
section
variable {X:Cx} {O:List Nat} {a b:Expr} {ga gb:DS->Option D} {pos:Pos}
theorem zm (ha:PE X a (tSh X.K O ga)) (hb:PE X b (tSh X.K O gb)) (hs:PlainIx b:=by exact fun _ _=>rfl):PE X (.Subscript a b pos) (tE X.K O (g2 dIx ga gb)):=(zos zm3 ha hb hs).mono fun _ _ _=>zkD znY
end
noncomputable def g1 (f:D->Option D) (a:DS->Option D):DS->Option D:=fun δ=>(a δ).bind f
noncomputable def dNeg:D->Option D
 | .int a=>some (.int (-a))
 | _=>none
noncomputable def dNot:D->Option D
 | .bool a=>some (.bool (!a))
 | _=>none
section
variable {X:Cx} {O:List Nat} {a b c:Expr} {ga gb:DS->Option D} {pos:Pos}
theorem zea (ha:PE X a (tSh X.K O ga)):PE X (.UnaryOp .USub a pos) (tE X.K O (g1 dNeg ga)):=(zoi zoe ha).mono fun σ H Q hh=>hh.e fun U A0 δ d R ed q=>by
 obtain ⟨x,e1,e2⟩:=bind1 ed
 cases x with
 | int i=>cases e2; exact ⟨U,A0,δ,_,R,e1,fun v H' s h=>⟨i,h.int,q _ H' s (.int _)⟩⟩
 | _=>cases e2
theorem zn5 (ha:PE X a (tSh X.K O ga)):PE X (.UnaryOp .Not a pos) (tE X.K O (g1 dNot ga)):=(znS ha).mono fun σ H Q hh=>hh.e fun U A0 δ d R ed q=>by
 obtain ⟨x,e1,e2⟩:=bind1 ed
 cases x with
 | bool i=>cases e2; exact ⟨U,A0,δ,_,R,e1,fun v H' s h=>⟨i,h.bool,q _ H' s (.bl _)⟩⟩
 | _=>cases e2
noncomputable def gAndV (a b:DS->Option D):DS->Option D:=fun δ=>(gB a δ).bind fun x=>if x=true then b δ else some (.bool false)
theorem zln {g:DS->Option D} {δ:DS} {b:Bool} (h:gB g δ=some b):g δ=some (.bool b):=by
 obtain ⟨d,e1,e2⟩:=bind1 h
 cases d with
 | bool c=>cases e2; exact e1
 | _=>cases e2
theorem zm1 {rest:List Expr} (ha:PE X a (tE X.K O ga)) (hb:PE X (.BoolOp .And (b :: rest) pos) (tE X.K O gb)):PE X (.BoolOp .And (a :: b :: rest) pos) (tE X.K O (gAndV ga gb)):=(zna ha hb).mono fun σ H Q hh=>hh.e fun U A0 δ d R ed q=>by
 obtain ⟨x,e1,e2⟩:=bind1 ed
 refine ⟨U,A0,δ,_,R,zln e1,fun v H' s h=>?_⟩
 cases h
 refine ⟨x,rfl,?_⟩
 cases x with
 | true=>rw [if_pos rfl] at e2 ⊢; exact ⟨U,A0,δ,d,R.same s,e2,fun v H2 s2 h2=>q v H2 (s.trans s2) h2⟩
 | false=>rw [if_neg Bool.false_ne_true] at e2 ⊢; cases e2; exact q _ H' s (.bl _)
noncomputable def gAnd (a b:DS->Option Bool):DS->Option Bool:=fun δ=>(a δ).bind fun x=>if x=true then b δ else some false
noncomputable def gOr (a b:DS->Option Bool):DS->Option Bool:=fun δ=>(a δ).bind fun x=>if x=true then some true else b δ
noncomputable def gNot (a:DS->Option Bool):DS->Option Bool:=fun δ=>(a δ).map fun x=> !x
variable {ta tb:DS->Option Bool} {rest:List Expr}
theorem zbI (ha:PT X a (tT X.K O ta)) (hb:PW X (.BoolOp .And (b :: rest) pos) (tT X.K O tb)):PW X (.BoolOp .And (a :: b :: rest) pos) (tT X.K O (gAnd ta tb)):=(zns ha hb).mono fun σ H Q hh=>hh.e fun U A0 δ d R ed q=>by
 obtain ⟨x,e1,e2⟩:=bind1 ed
 refine ⟨U,A0,δ,_,R,e1,fun H' s=>?_⟩
 cases x with
 | true=>rw [if_pos rfl] at e2 ⊢; exact ⟨U,A0,δ,d,R.same s,e2,fun H2 s2=>q H2 (s.trans s2)⟩
 | false=>rw [if_neg Bool.false_ne_true] at e2 ⊢; cases e2; exact q H' s
theorem zcS (ha:PT X a (tT X.K O ta)) (hb:PW X (.BoolOp .Or (b :: rest) pos) (tT X.K O tb)):PW X (.BoolOp .Or (a :: b :: rest) pos) (tT X.K O (gOr ta tb)):=(zoz ha hb).mono fun σ H Q hh=>hh.e fun U A0 δ d R ed q=>by
 obtain ⟨x,e1,e2⟩:=bind1 ed
 refine ⟨U,A0,δ,_,R,e1,fun H' s=>?_⟩
 cases x with
 | true=>rw [if_pos rfl] at e2 ⊢; cases e2; exact q H' s
 | false=>rw [if_neg Bool.false_ne_true] at e2 ⊢; exact ⟨U,A0,δ,d,R.same s,e2,fun H2 s2=>q H2 (s.trans s2)⟩
theorem zb7 (ha:PT X a (tT X.K O ta)):PT X (.UnaryOp .Not a pos) (tT X.K O (gNot ta)):=(znQ ha).mono fun σ H Q hh=>hh.e fun U A0 δ d R ed q=>by
 unfold gNot at ed
 cases e:ta δ with
 | none=>rw [e] at ed; cases ed
 | some x=>rw [e] at ed; cases ed; exact ⟨U,A0,δ,x,R,e,fun H' s=>q H' s⟩
noncomputable def dTru:D->Option Bool
 | .none=>some false
 | .bool b=>some b
 | .int i=>some (i != 0)
 | .str x=>if x.length<=100000 then some ((x.length:Int) != 0) else none
 | .list l=>some (!l.isEmpty)
 | .tuple l=>some (!l.isEmpty)
 | _=>none
noncomputable def gTru (g:DS->Option D):DS->Option Bool:=fun δ=>(g δ).bind dTru
theorem zdQ {K:PySem.W.Frag} {H:Hp} {xs:List V} {ds:List D} (h:HDs K H xs ds):xs.isEmpty=ds.isEmpty:=by cases h <;> rfl
theorem zI (ha:PE X a (tSh X.K O ga)) (he:∀ whole,isTrue a X.env whole=(do let v <- whole; standAt a.pos; holding [v] (truthy v)):=by exact fun _=>rfl):PT X a (tT X.K O (gTru ga)):=(zkz ha he).mono fun σ H Q hh=>hh.e fun U A0 δ k R ed q=>by
 obtain ⟨d,e1,e2⟩:=bind1 ed
 refine ⟨U,A0,δ,d,R,e1,fun v H' s h=>⟨k,?_,q H' s⟩⟩
 cases d with
 | none=>cases e2; rw [h.non]; exact rfl
 | bool b=>cases e2; rw [h.bool]; exact rfl
 | int i=>cases e2; rw [h.int]; exact rfl
 | str x=>
   rw [h.str]
   have e3:(if x.length<=100000 then some ((x.length:Int) != 0) else none)=some k:=e2
   split at e3
   ·cases e3; exact ⟨small (by assumption),rfl⟩
   ·cases e3
 | list l=>
   cases e2
   obtain ⟨p,xs,rfl,h1,h2⟩:=h.list
   exact .inl ⟨xs,h1.sq,by rw [zdQ h2]⟩
 | tuple l=>
   cases e2
   obtain ⟨p,xs,rfl,h1,h2⟩:=h.tuple
   exact .inr (.inl ⟨xs,h1,by rw [zdQ h2]⟩)
 | dict _=>cases e2
end
noncomputable def gNilA:DS->Option (List D):=fun _=>some []
noncomputable def gConsA (a:DS->Option D) (r:DS->Option (List D)):DS->Option (List D):=fun δ=>(a δ).bind fun x=>(r δ).bind fun xs=>some (x :: xs)
noncomputable def gTupD (r:DS->Option (List D)):DS->Option D:=fun δ=>(r δ).bind fun xs=>if xs.length<=100000 then some (.tuple xs) else none
noncomputable def gLstN (r:DS->Option (List D)):DS->Option (List D):=fun δ=>(r δ).bind fun xs=>if xs.length<=100000 then some xs else none
section
variable {X:Cx} {O:List Nat} {e:Expr} {es:List Expr} {ga:DS->Option D} {gr:DS->Option (List D)} {pos:Pos}
theorem zg:PA X [] (tAs X.K O gNilA):=za0.mono fun σ H Q hh=>hh.e fun U A0 δ d R ed q=>by cases ed; exact q [] H (Same.refl H) .nil
theorem za (ha:PE X e (tE X.K O ga)) (hr:PA X es (tAs X.K O gr)) (hs:starEach (e :: es) X.env=(false,eval e X.env) :: starEach es X.env:=by rfl):PA X (e :: es) (tAs X.K O (gConsA ga gr)):=(zab ha hr hs).mono fun σ H Q hh=>hh.e fun U A0 δ ds R ed q=>by
 obtain ⟨x,xs,e1,e2,e3⟩:=bind2 ed
 cases e3
 exact ⟨U,A0,δ,x,R,e1,fun v H1 s1 h1=>⟨U,A0,δ,xs,R.same s1,e2,fun vs H2 s2 h2=>q _ H2 (s1.trans s2) (.cons (h1.same (zaK s2)) h2)⟩⟩
theorem zX:PA X [] (tAsh X.K O gNilA):=za0.mono fun σ H Q hh=>hh.e fun U A0 δ d R ed q=>by cases ed; exact q [] H (Same.refl H) .nil
theorem zN (ha:PE X e (tSh X.K O ga)) (hr:PA X es (tAsh X.K O gr)) (hs:starEach (e :: es) X.env=(false,eval e X.env) :: starEach es X.env:=by rfl):PA X (e :: es) (tAsh X.K O (gConsA ga gr)):=(zab ha hr hs).mono fun σ H Q hh=>hh.e fun U A0 δ ds R ed q=>by
 obtain ⟨x,xs,e1,e2,e3⟩:=bind2 ed
 cases e3
 exact ⟨U,A0,δ,x,R,e1,fun v H1 s1 h1=>⟨U,A0,δ,xs,R.same s1,e2,fun vs H2 s2 h2=>q _ H2 (s1.trans s2) (.cons (h1.same s2) h2)⟩⟩
set_option tactic.hygienic true in
theorem zan {x1} (h:PA X es (tAs X.K O gr)):PE X (.Tuple es x1 pos) (tE X.K O (gTupD gr)):=(znx h).mono fun σ H Q hh=>hh.e fun U A0 δ d R ed q=>by
 obtain ⟨xs,e1,e2⟩:=bind1 ed
 split at e2
 ·rename_i hz
  cases e2
  refine ⟨U,A0,δ,xs,R,e1,fun vs H' s h=>⟨by have:=h.len; exact small (by omega),fun p hp=>q _ _ (s.trans (z0 hp _)) (HD.newT (R.same s).al hp h)⟩⟩
 ·cases e2
set_option tactic.hygienic true in
theorem zaD (h:PA X es (tAs X.K O gr)):PE X (.List es pos) (tN X.K O (gLstN gr)):=(zn0 h).mono fun σ H Q hh=>hh.e fun U A0 δ d R ed q=>by
 obtain ⟨xs,e1,e2⟩:=bind1 ed
 split at e2
 ·rename_i hz
  cases e2
  refine ⟨U,A0,δ,d,R,e1,fun vs H' s h=>⟨by have:=h.len; exact small (by omega),fun p hp=>zjC s q p vs hp h⟩⟩
 ·cases e2
end
noncomputable def spD (K:PySem.W.Frag) (n:Nat) (G:List D->Option D):Sp:=fun vs H Q _=>vs.length=n /\ ∃ A ds d,Ls A H /\ HDs K (wo H A) vs ds /\ G ds=some d /\ ∀ v H',Same H H'->HD K (wo H' A) v d->Q v H'
noncomputable def spN (K:PySem.W.Frag) (n:Nat) (G:List D->Option (List D)):Sp:=fun vs H Q _=>vs.length=n /\ ∃ A ds d,Ls A H /\ HDs K (wo H A) vs ds /\ G ds=some d /\
 ∀ r ys H',Same H H'->H r=none->H' r=some (.lst ys)->HDs K (wo H' (r :: A)) ys d->Q (.ref r) H'
noncomputable def gCall (G:List D->Option D) (n:Nat) (g:DS->Option (List D)):DS->Option D:=fun δ=>(g δ).bind fun ds=>if ds.length=n then G ds else none
noncomputable def gCallN (G:List D->Option (List D)) (n:Nat) (g:DS->Option (List D)):DS->Option (List D):=fun δ=>(g δ).bind fun ds=>if ds.length=n then G ds else none
section
variable {X:Cx} {O:List Nat} {e:Expr} {es:List Expr} {gr:DS->Option (List D)} {pos p:Pos} {n k kk:Nat} {x:Str} {ps:List Str}
set_option tactic.hygienic true in
theorem zx {G:List D->Option D} (F:Dn X.prog X.w X.K X.mg X.base k x ps (spD X.K n G)) (hr:Room kk X.A) (hk:k<=kk) (ha:PA X (e :: es) (tAs X.K O gr)) (hg:Gl X x:=by rfl)
  (hdb:(x == ("__debug__":Str))=false:=by decide) (he:starEach (e :: es) X.env=(false,eval e X.env) :: starEach es X.env:=by rfl) (hpl:(backTo pos (starEach es X.env)).any (·.1)=false:=by rfl):
  PE X (.Call (.Name x p) (e :: es) [] pos) (tE X.K O (gCall G n gr)):=(zm0 F hr hk ha hg hdb he hpl).mono fun σ H Q hh=>hh.e fun U A0 δ d R ed q=>by
 obtain ⟨ds,e1,e2⟩:=bind1 ed
 split at e2
 ·rename_i hn
  refine ⟨U,A0,δ,ds,R,e1,fun vs H' s h=>?_⟩
  show spD X.K n G (vs ++ []) H' Q E0
  rw [List.append_nil]
  exact ⟨by rw [h.len]; exact hn,U ++ A0,ds,d,(R.same s).al,h,e2,fun v H2 s2 h2=>q v H2 (s.trans s2) h2⟩
 ·cases e2
set_option tactic.hygienic true in
theorem zaI {G:List D->Option (List D)} (F:Dn X.prog X.w X.K X.mg X.base k x ps (spN X.K n G)) (hr:Room kk X.A) (hk:k<=kk) (ha:PA X (e :: es) (tAs X.K O gr)) (hg:Gl X x:=by rfl)
  (hdb:(x == ("__debug__":Str))=false:=by decide) (he:starEach (e :: es) X.env=(false,eval e X.env) :: starEach es X.env:=by rfl) (hpl:(backTo pos (starEach es X.env)).any (·.1)=false:=by rfl):
  PE X (.Call (.Name x p) (e :: es) [] pos) (tN X.K O (gCallN G n gr)):=(zm0 F hr hk ha hg hdb he hpl).mono fun σ H Q hh=>hh.e fun U A0 δ d R ed q=>by
 obtain ⟨ds,e1,e2⟩:=bind1 ed
 split at e2
 ·rename_i hn
  refine ⟨U,A0,δ,ds,R,e1,fun vs H' s h=>?_⟩
  show spN X.K n G (vs ++ []) H' Q E0
  rw [List.append_nil]
  exact ⟨by rw [h.len]; exact hn,U ++ A0,ds,d,(R.same s).al,h,e2,fun r ys H2 s2 h0 h1 h2=>q r ys H2 (s.trans s2) (s.free h0) h1 h2⟩
 ·cases e2
end
noncomputable def ImpC (K:PySem.W.Frag) (r:List V->Hp->VK->Prop) (f:List D->Option D):Prop:=∀ (A:List Addr) (H:Hp) (vs:List V) (ds:List D) (d:D) (Q:VK),Ls A H->ShDs K A H vs ds->f ds=some d->(∀ v H',Same H H'->HD K (wo H' A) v d->Q v H')->r vs H Q
noncomputable def ImpCN (K:PySem.W.Frag) (r:List V->Hp->VK->Prop) (f:List D->Option (List D)):Prop:=∀ (A:List Addr) (H:Hp) (vs:List V) (ds:List D) (d:List D) (Q:VK),Ls A H->ShDs K A H vs ds->f ds=some d->
 (∀ p ys,H p=none->HDs K (wo H A) ys d->Q (.ref p) (upd H p (.lst ys)))->r vs H Q
noncomputable def gB1 (f:List D->Option D) (g:DS->Option (List D)):DS->Option D:=fun δ=>(g δ).bind f
noncomputable def gB1N (f:List D->Option (List D)) (g:DS->Option (List D)):DS->Option (List D):=fun δ=>(g δ).bind f
section
variable {X:Cx} {O:List Nat} {e:Expr} {es:List Expr} {gr:DS->Option (List D)} {pos p:Pos} {x:Str} {r:List V->Hp->VK->Prop} {id T:String}
theorem zm9 {K:PySem.W.Frag} {f:List D->Option D} (imp:ImpC K r f) {σ:St} {H:Hp} {Q:VK}:tE K O (gB1 f gr) σ H Q->tCB r (tAsh K O gr) σ H Q:=fun ⟨U,A0,δ,d,R,ed,q⟩=>by
 obtain ⟨ds,e1,e2⟩:=bind1 ed
 exact ⟨U,A0,δ,ds,R,e1,fun vs H' s h=>imp _ H' vs ds d Q (R.same s).al h e2 fun v H2 s2 h2=>q v H2 (s.trans s2) h2⟩
theorem zoA {K:PySem.W.Frag} {f:List D->Option (List D)} (imp:ImpCN K r f) {σ:St} {H:Hp} {Q:VK}:tN K O (gB1N f gr) σ H Q->tCB r (tAsh K O gr) σ H Q:=fun ⟨U,A0,δ,d,R,ed,q⟩=>by
 obtain ⟨ds,e1,e2⟩:=bind1 ed
 exact ⟨U,A0,δ,ds,R,e1,fun vs H' s h=>imp _ H' vs ds d Q (R.same s).al h e2 (zjC s q)⟩
theorem zap {f:List D->Option D} (hc:CallR X (.builtin id) r) (imp:ImpC X.K r f) (hg:Gl X x) (hm:X.mg x=none) (hv:bootBuiltins x=some (.builtin id)) (ha:PA X (e :: es) (tAsh X.K O gr)) (hn:x≠"__name__":=by decide) (hdb:(x == ("__debug__":Str))=false:=by decide)
  (he:starEach (e :: es) X.env=(false,eval e X.env) :: starEach es X.env:=by rfl) (hpl:(backTo pos (starEach es X.env)).any (·.1)=false:=by rfl):PE X (.Call (.Name x p) (e :: es) [] pos) (tE X.K O (gB1 f gr)):=
 (zcY hc hg hm hv ha hn hdb he hpl).mono fun _ _ _=>zm9 imp
theorem zdw {f:List D->Option D} (hc:CallR X (.type T) r) (imp:ImpC X.K r f) (hg:Gl X x) (hm:X.mg x=none) (hv:bootBuiltins x=some (.type T)) (ha:PA X (e :: es) (tAsh X.K O gr)) (hn:x≠"__name__":=by decide) (hdb:(x == ("__debug__":Str))=false:=by decide)
  (he:starEach (e :: es) X.env=(false,eval e X.env) :: starEach es X.env:=by rfl) (hpl:(backTo pos (starEach es X.env)).any (·.1)=false:=by rfl):PE X (.Call (.Name x p) (e :: es) [] pos) (tE X.K O (gB1 f gr)):=
 (zdg hc hg hm hv ha hn hdb he hpl).mono fun _ _ _=>zm9 imp
theorem zhb {f:List D->Option (List D)} (hc:CallR X (.type T) r) (imp:ImpCN X.K r f) (hg:Gl X x) (hm:X.mg x=none) (hv:bootBuiltins x=some (.type T)) (ha:PA X (e :: es) (tAsh X.K O gr)) (hn:x≠"__name__":=by decide) (hdb:(x == ("__debug__":Str))=false:=by decide)
  (he:starEach (e :: es) X.env=(false,eval e X.env) :: starEach es X.env:=by rfl) (hpl:(backTo pos (starEach es X.env)).any (·.1)=false:=by rfl):PE X (.Call (.Name x p) (e :: es) [] pos) (tN X.K O (gB1N f gr)):=
 (zdg hc hg hm hv ha hn hdb he hpl).mono fun _ _ _=>zoA imp
end
theorem sh1 {K:PySem.W.Frag} {A:List Addr} {H:Hp} {vs:List V} {d:D} (h:ShDs K A H vs [d]):∃ v,vs=[v] /\ ShD K A H v d:=by
 unfold ShDs at h
 cases h with
 | cons a t=>cases t; exact ⟨_,rfl,a⟩
noncomputable def dLen:List D->Option D
 | [.list l]=>some (.int l.length)
 | [.tuple l]=>some (.int l.length)
 | [.str z]=>if z.length<=100000 then some (.int z.length) else none
 | _=>none
theorem zbn {X:Cx}:CallR X (.builtin "len") (fun xs H Q=>(∃ p ys,xs=[.ref p] /\ (SqL X.K H p ys \/ SqT X.K H p ys) /\ Q (.int ys.length) H) \/ ∃ z,xs=[.str z] /\ z.length<=sizeLine /\ Q (.int z.length) H):=zfS.or ze0
theorem zcz {K:PySem.W.Frag}:ImpC K (fun xs H Q=>(∃ p ys,xs=[.ref p] /\ (SqL K H p ys \/ SqT K H p ys) /\ Q (.int ys.length) H) \/ ∃ z,xs=[.str z] /\ z.length<=sizeLine /\ Q (.int z.length) H) dLen:=by
 intro A H vs ds d Q al h e q
 unfold dLen at e
 split at e
 ·cases e
  obtain ⟨v,rfl,h1⟩:=sh1 h
  clear h
  have h:=h1
  obtain ⟨p,xs,rfl,h1,h2⟩:=h.list
  refine .inl ⟨p,xs,rfl,.inl h1.sq,?_⟩
  rw [h2.len]
  exact q _ H (Same.refl H) (.int _)
 ·cases e
  obtain ⟨v,rfl,h1⟩:=sh1 h
  clear h
  have h:=h1
  obtain ⟨p,xs,rfl,h1,h2⟩:=h.tuple
  refine .inl ⟨p,xs,rfl,.inr h1,?_⟩
  rw [h2.len]
  exact q _ H (Same.refl H) (.int _)
 ·split at e
  ·cases e
   obtain ⟨v,rfl,h1⟩:=sh1 h
   exact .inr ⟨_,by rw [h1.str],small (by assumption),q _ H (Same.refl H) (.int _)⟩
  ·cases e
 ·cases e
noncomputable def dAbs:List D->Option D
 | [.int i]=>some (.int (if i < 0 then -i else i))
 | _=>none
theorem zdF {K:PySem.W.Frag}:ImpC K (fun xs H Q=>∃ i,xs=[.int i] /\ Q (.int (if i < 0 then -i else i)) H) dAbs:=by
 intro A H vs ds d Q al h e q
 unfold dAbs at e
 split at e
 ·cases e
  obtain ⟨v,rfl,h1⟩:=sh1 h
  clear h
  have h:=h1
  exact ⟨_,by rw [h.int],q _ H (Same.refl H) (.int _)⟩
 ·cases e
noncomputable def dInt:List D->Option D
 | [.int i]=>some (.int i)
 | [.bool k]=>some (.int (if k then 1 else 0))
 | _=>none
theorem zms {K:PySem.W.Frag}:ImpC K (fun xs H Q=>(∃ i,xs=[.int i] /\ Q (.int i) H) \/ ∃ k,xs=[.bl k] /\ Q (.int (if k then 1 else 0)) H) dInt:=by
 intro A H vs ds d Q al h e q
 unfold dInt at e
 split at e
 ·cases e
  obtain ⟨v,rfl,h1⟩:=sh1 h
  clear h
  have h:=h1
  exact .inl ⟨_,by rw [h.int],q _ H (Same.refl H) (.int _)⟩
 ·cases e
  obtain ⟨v,rfl,h1⟩:=sh1 h
  clear h
  have h:=h1
  exact .inr ⟨_,by rw [h.bool],q _ H (Same.refl H) (.int _)⟩
 ·cases e
noncomputable def dListN:List D->Option (List D)
 | [.list l]=>some l
 | [.tuple l]=>some l
 | _=>none
theorem zkI {K:PySem.W.Frag}:ImpCN K (fun xs H Q=>∃ p ys,xs=[.ref p] /\ (SqL K H p ys \/ SqT K H p ys) /\ ∀ l,H l=none->Q (.ref l) (upd H l (.lst ys))) dListN:=by
 intro A H vs ds d Q al h e q
 unfold dListN at e
 split at e
 ·cases e
  obtain ⟨v,rfl,h1⟩:=sh1 h
  clear h
  have h:=h1
  obtain ⟨p,xs,rfl,h1,h2⟩:=h.list
  exact ⟨p,xs,rfl,.inl h1.sq,fun l hl=>q l xs hl h2⟩
 ·cases e
  obtain ⟨v,rfl,h1⟩:=sh1 h
  clear h
  have h:=h1
  obtain ⟨p,xs,rfl,h1,h2⟩:=h.tuple
  exact ⟨p,xs,rfl,.inr h1,fun l hl=>q l xs hl h2⟩
 ·cases e
noncomputable def dTupleOf:List D->Option D
 | [.list l]=>some (.tuple l)
 | [.tuple l]=>some (.tuple l)
 | _=>none
theorem ze8 {K:PySem.W.Frag}:ImpC K (fun xs H Q=>∃ p ys,xs=[.ref p] /\ ((SqL K H p ys /\ ∀ l,H l=none->Q (.ref l) (upd H l (.tup ys))) \/ (SqT K H p ys /\ Q (.ref p) H))) dTupleOf:=by
 intro A H vs ds d Q al h e q
 unfold dTupleOf at e
 split at e
 ·cases e
  obtain ⟨v,rfl,h1⟩:=sh1 h
  clear h
  have h:=h1
  obtain ⟨p,xs,rfl,h1,h2⟩:=h.list
  exact ⟨p,xs,rfl,.inl ⟨h1.sq,fun l hl=>q _ _ (z0 hl _) (HD.newT al hl h2)⟩⟩
 ·cases e
  obtain ⟨v,rfl,h1⟩:=sh1 h
  clear h
  have h:=h1
  have h':=h.fz
  obtain ⟨p,xs,rfl,h1,h2⟩:=h.tuple
  exact ⟨p,xs,rfl,.inr ⟨h1,q _ H (Same.refl H) h'⟩⟩
 ·cases e
noncomputable def tyName:D->String
 | .none=>"NoneType"
 | .bool _=>"bool"
 | .int _=>"int"
 | .str _=>"str"
 | .list _=>"list"
 | .tuple _=>"tuple"
 | .dict _=>"dict"
end L2
namespace L2
open PySem PySem.Spec PyProof.Rows
theorem zm5 {K:PySem.W.Frag} {t n:String} {b:Bool} (h:(Value.type t == Value.type n)=false) (h2:PySem.W.kitMeta n=true) (h3:(fastBuiltinMro t).map (·.contains (Value.type n))=some b):PySem.W.kitOne K (.type t) (.type n)=some b:=by
 unfold PySem.W.kitOne PySem.W.kitCls
 rw [h,if_neg (by decide)]
 show (if PySem.W.kitMeta n=true then PySem.W.subIn K (.type t) (.type n) else none)=some b
 rw [if_pos h2]
 exact h3
noncomputable def isiNames:List String:=["int","bool","str","list","tuple","NoneType"]
noncomputable def dIsi (n:String):List D->Option D
 | [d]=>if tyName d∈isiNames /\ n∈isiNames then some (.bool (decide (tyName d=n) || (decide (tyName d="bool") && decide (n="int")))) else none
 | _=>none
theorem zlw {K:PySem.W.Frag} {t n:String} (ht:t∈isiNames) (hn:n∈isiNames):PySem.W.kitOne K (.type t) (.type n)=some (decide (t=n) || (decide (t="bool") && decide (n="int"))):=by
 by_cases h:t=n
 ·subst h
  rw [zkL]; simp
 ·have all:∀ t∈isiNames,∀ n∈isiNames,t≠n->(Value.type t == Value.type n)=false /\ PySem.W.kitMeta n=true /\ (fastBuiltinMro t).map (·.contains (Value.type n))=some (decide (t=n) || (decide (t="bool") && decide (n="int"))):=by decide +kernel
  obtain ⟨h1,h2,h3⟩:=all t ht n hn h
  exact zm5 h1 h2 h3
theorem ShD.ty {K:PySem.W.Frag} {A:List Addr} {H:Hp} {v:V} {d:D} (h:ShD K A H v d) (hn:tyName d∈isiNames):TyW K H v (tyName d):=by
 cases d with
 | none=>rw [h.non]; exact .inl .non
 | bool b=>rw [h.bool]; exact .inl (.bl b)
 | int i=>rw [h.int]; exact .inl (.int i)
 | str x=>rw [h.str]; exact .inl (.str x)
 | list l=>obtain ⟨p,xs,rfl,h1,_⟩:=h.list; exact .inr (.inr ⟨p,xs,rfl,h1.sq,rfl⟩)
 | tuple l=>obtain ⟨p,xs,rfl,h1,_⟩:=h.tuple; exact .inr (.inl ⟨p,xs,rfl,h1,rfl⟩)
 | dict l=>simp [tyName,isiNames] at hn
section
variable {X:Cx} {O:List Nat} {e:Expr} {ga:DS->Option D} {pos p p2:Pos}
noncomputable def gIsi (n:String) (g:DS->Option D):DS->Option D:=fun δ=>(g δ).bind fun d=>dIsi n [d]
set_option tactic.hygienic true in
theorem znm {n:Str} (T:String) (hB:X.mg "isinstance"=none) (ha:PE X e (tSh X.K O ga)) (ht:PE X (.Name n p2) (tC (.ty T))) (hg:Gl X "isinstance":=by rfl)
  (he:starEach [e,.Name n p2] X.env=(false,eval e X.env) :: starEach [.Name n p2] X.env:=by rfl) (he2:starEach [.Name n p2] X.env=(false,eval (.Name n p2) X.env) :: starEach [] X.env:=by rfl) (hpl:(backTo pos (starEach [.Name n p2] X.env)).any (·.1)=false:=by rfl):
  PE X (.Call (.Name "isinstance" p) [e,.Name n p2] [] pos) (tE X.K O (gIsi T ga)):=
 (zcY zjM hg hB zca (zab ha (zab ht za0 he2) he) (by decide) (by decide) he hpl).mono fun σ H Q hh=>hh.e fun U A0 δ d R ed q=>by
  obtain ⟨x,e1,e2⟩:=bind1 ed
  have e3:(if tyName x∈isiNames /\ T∈isiNames then some (PyData.bool (decide (tyName x=T) || (decide (tyName x="bool") && decide (T="int")))) else none)=some d:=e2
  split at e3
  ·rename_i hz
   cases e3
   refine ⟨U,A0,δ,x,R,e1,fun v H' s h=>?_⟩
   exact ⟨v,T,tyName x,_,rfl,h.ty hz.1,zlw hz.1 hz.2,q _ H' s (.bl _)⟩
  ·cases e3
end
noncomputable def gPart (g:DS->Option D):DS->Option (Option Int):=fun δ=>(g δ).bind fun | .int i=>some (some i) | _=>none
noncomputable def gNoPart:DS->Option (Option Int):=fun _=>some none
noncomputable def tOs (K:PySem.W.Frag) (O:List Nat) (g:DS->Option (Option Int)):TO:=fun σ H Q=>∃ U A0 δ d,Rel K O U A0 σ δ H /\ g δ=some d /\ ∀ H',Same H H'->Q d H'
theorem tOs.e {K:PySem.W.Frag} {O:List Nat} {g:DS->Option (Option Int)}  {σ:_} {H:_} {Q:_} {GG:Prop} (hh:tOs K O g σ H Q) (kk:∀ U A0 δ d,(Rel K O U A0 σ δ H)->(g δ=some d)->(∀ H',Same H H'->Q d H')->GG):GG:=by obtain ⟨U,A0,δ,d,x0,x1,x2⟩:=hh; exact kk U A0 δ d x0 x1 x2
noncomputable def cutD (xs:List D) (lo hi:Option Int):List D:=(xs.drop (HT.sIx xs.length 0 lo)).take (HT.sIx xs.length xs.length hi - HT.sIx xs.length 0 lo)
noncomputable def gSlL (a:DS->Option D) (lo hi:DS->Option (Option Int)):DS->Option (List D):=fun δ=>(a δ).bind fun x=>(lo δ).bind fun l=>(hi δ).bind fun h=>match x with
 | .list ds=>some (cutD ds l h)
 | _=>none
section
variable {X:Cx} {O:List Nat} {e:Expr} {lo hi:Option Expr} {ga:DS->Option D} {gl gh:DS->Option (Option Int)} {pos p2:Pos}
theorem zcn:PO X none (tOs X.K O gNoPart):=zmy.mono fun σ H Q hh=>hh.e fun U A0 δ d R ed q=>by cases ed; exact q H (Same.refl H)
theorem zcg (h:PE X e (tSh X.K O ga)):PO X (some e) (tOs X.K O (gPart ga)):=(zmz h).mono fun σ H Q hh=>hh.e fun U A0 δ d R ed q=>by
 obtain ⟨x,e1,e2⟩:=bind1 ed
 cases x with
 | int i=>cases e2; exact ⟨U,A0,δ,_,R,e1,fun v H' s h=>⟨i,h.int,q H' s⟩⟩
 | _=>cases e2
theorem zfN (ha:PE X e (tSh X.K O ga)) (hl:PO X lo (tOs X.K O gl)) (hh:PO X hi (tOs X.K O gh)):PE X (.Subscript e (.Slice lo hi none p2) pos) (tN X.K O (gSlL ga gl gh)):=(zkx zlC ha hl hh).mono fun σ H Q hh=>hh.e fun U A0 δ d R ed q=>by
 obtain ⟨x,e1,e2⟩:=bind1 ed
 obtain ⟨l,e3,e4⟩:=bind1 e2
 obtain ⟨h,e5,e6⟩:=bind1 e4
 cases x with
 | list ds=>
   cases e6
   refine ⟨U,A0,δ,_,R,e1,fun v H1 s1 h1=>⟨U,A0,δ,l,R.same s1,e3,fun H2 s2=>⟨U,A0,δ,h,R.same (s1.trans s2),e5,fun H3 s3=>?_⟩⟩⟩
   obtain ⟨p,xs,rfl,r1,r2⟩:=(h1.same (s2.trans s3)).list
   refine ⟨p,xs,rfl,r1.sq,fun r hr=>zjC ((s1.trans s2).trans s3) q r _ hr ?_⟩
   unfold cutV cutD
   rw [r2.len]
   exact (r2.dropD _).takeD _
 | _=>cases e6
end
noncomputable def gSeq (a b:DS->Option Res):DS->Option Res:=fun δ=>(a δ).bind fun | .nx δ'=>b δ' | r=>some r
noncomputable def gSkip:DS->Option Res:=fun δ=>some (.nx δ)
noncomputable def gIf (c:DS->Option Bool) (a b:DS->Option Res):DS->Option Res:=fun δ=>(c δ).bind fun x=>if x=true then a δ else b δ
noncomputable def gSet (i:Nat) (g:DS->Option D):DS->Option Res:=fun δ=>(g δ).bind fun d=>some (.nx (δ.set i (some d)))
noncomputable def gSetN (i:Nat) (g:DS->Option (List D)):DS->Option Res:=fun δ=>(g δ).bind fun d=>some (.nx (δ.set i (some (.list d))))
noncomputable def gRet (g:DS->Option D):DS->Option Res:=fun δ=>(g δ).bind fun d=>some (.rt d)
noncomputable def gDrop (g:DS->Option D):DS->Option Res:=fun δ=>(g δ).bind fun _=>some (.nx δ)
section
variable {X:Cx} {O:List Nat} {fr:Fr} {xk:Str->Hp->Prop} {st:Stmt} {rest a b:List Stmt} {ga gb:DS->Option Res} {gc:DS->Option Bool} {ge:DS->Option D} {gl:DS->Option (List D)} {e c:Expr} {pos:Pos}
theorem zi (h1:PS X st (tS X.K O fr ga)) (h2:PSs X rest (tS X.K O fr gb)):PSs X (st :: rest) (tS X.K O fr (gSeq ga gb)):=(zkb h1 h2).mono fun E σ H hh=>hh.e fun H0 U A0 δ r R F ed P=>by
 obtain ⟨r1,e1,e2⟩:=bind1 ed
 cases r1 with
 | nx δ'=>exact ⟨H0,U,A0,δ,.nx δ',R,F,e1,fun U' σ' H' R' F'=>⟨H0,U',A0,δ',r,R',F',e2,P⟩⟩
 | rt d=>cases e2; exact ⟨H0,U,A0,δ,_,R,F,e1,P⟩
 | bk d=>cases e2; exact ⟨H0,U,A0,δ,_,R,F,e1,P⟩
 | ct d=>cases e2; exact ⟨H0,U,A0,δ,_,R,F,e1,P⟩
theorem zk (h1:PS X st (tS X.K O fr ga)):PSs X [st] (tS X.K O fr ga):=zlW h1
theorem z9:PSs X [] (tS X.K O fr gSkip):=zmD.mono fun E σ H hh=>hh.e fun H0 U A0 δ r R F ed P=>by cases ed; exact P U σ H R F
theorem zbW:PS X st (tS X.K O fr fun _=>none):=zki.mono fun E σ H hh=>hh.e fun H0 U A0 δ r R F ed P=>by cases ed
theorem zaZ (hc:PT X c (tT X.K O gc)) (ha:PSs X a (tS X.K O fr ga)) (hb:PSs X b (tS X.K O fr gb)):PS X (.If c a b pos) (tS X.K O fr (gIf gc ga gb)):=(zol hc ha hb).mono fun E σ H hh=>hh.e fun H0 U A0 δ r R F ed P=>by
 obtain ⟨x,e1,e2⟩:=bind1 ed
 refine ⟨U,A0,δ,x,R,e1,fun H' s=>?_⟩
 cases x with
 | true=>rw [if_pos rfl] at e2 ⊢; exact ⟨H0,U,A0,δ,r,R.same s,F.grow s,e2,P⟩
 | false=>rw [if_neg Bool.false_ne_true] at e2 ⊢; exact ⟨H0,U,A0,δ,r,R.same s,F.grow s,e2,P⟩
theorem zr {i:Nat} (h:PS X st (tAsg (tE X.K O ge) (gName i))) (hi:i∉O:=by decide):PS X st (tS X.K O fr (gSet i ge)):=h.mono fun E σ H hh=>hh.e fun H0 U A0 δ r R F ed P=>by
 obtain ⟨d,e1,e2⟩:=bind1 ed
 cases e2
 exact ⟨U,A0,δ,d,R,e1,fun v H' s hv=>P U _ H' ((R.same s).set hi hv) (F.grow s)⟩
theorem zb8 {i:Nat} (h:PS X st (tAsg (tN X.K O gl) (gName i))) (hi:i∈O:=by decide):PS X st (tS X.K O fr (gSetN i gl)):=h.mono fun E σ H hh=>hh.e fun H0 U A0 δ r R F ed P=>by
 obtain ⟨d,e1,e2⟩:=bind1 ed
 cases e2
 exact ⟨U,A0,δ,d,R,e1,fun r ys H' s hr h1 h2=>P (r :: U) _ H' (R.setN s hr h1 h2 hi) (F.more s hr)⟩
theorem zeC (h:PS X st (tDrop (tE X.K O ge))):PS X st (tS X.K O fr (gDrop ge)):=h.mono fun E σ H hh=>hh.e fun H0 U A0 δ r R F ed P=>by
 obtain ⟨d,e1,e2⟩:=bind1 ed
 cases e2
 exact ⟨U,A0,δ,d,R,e1,fun v H' s hv=>P U σ H' (R.same s) (F.grow s)⟩
theorem zS (h:PE X e (tE X.K O ge)):PS X (.Return (some e) pos) (tS X.K O (false,xk) (gRet ge)):=(ziq h).mono fun E σ H hh=>hh.e fun H0 U A0 δ r R F ed P=>by
 obtain ⟨d,e1,e2⟩:=bind1 ed
 cases e2
 refine ⟨U,A0,δ,d,R,e1,fun v H' s hv=>P.1 v H' ?_⟩
 unfold RetR
 rw [if_neg Bool.false_ne_true]
 exact ⟨F.same.trans s,hv.same (zde fun a ha=>List.mem_append_right _ ha)⟩
theorem zeL (h:PE X e (tN X.K O gl)):PS X (.Return (some e) pos) (tS X.K O (true,xk) (gRet (gLst gl))):=(ziq h).mono fun E σ H hh=>hh.e fun H0 U A0 δ r R F ed P=>by
 obtain ⟨d,e1,e2⟩:=bind1 ed
 cases e2
 unfold gLst at e1
 cases eg:gl δ with
 | none=>rw [eg] at e1; cases e1
 | some l=>
   rw [eg] at e1; cases e1
   refine ⟨U,A0,δ,l,R,eg,fun r ys H' s hr h1 h2=>P.1 (.ref r) H' ?_⟩
   unfold RetR
   rw [if_pos rfl]
   refine ⟨r,_,rfl,F.same.trans s,F.same.free hr,h1,.lst (h2.same (zde fun a ha=>?_))⟩
   rcases List.mem_cons.mp ha with z | z
   ·subst z; simp
   ·exact List.mem_cons_of_mem _ (List.mem_append_right _ z)
theorem zbP {i:Nat} (h:PE X e (tVar i)) (hi:i∈O:=by decide):PS X (.Return (some e) pos) (tS X.K O fr (gRet (gVar i))):=(ziq h).mono fun E σ H hh=>hh.e fun H0 U A0 δ r R F ed P=>by
 obtain ⟨d,e1,e2⟩:=bind1 ed
 cases e2
 obtain ⟨l,o,hl,hU,h1,h2⟩:=R.ow i d hi (zy e1)
 refine ⟨.ref l,hl,P.1 (.ref l) H ?_⟩
 unfold RetR
 split
 ·refine ⟨l,o,rfl,F.same,F.new l hU,h1,h2.same (zde fun a ha=>?_)⟩
  rcases List.mem_cons.mp ha with z | z
  ·subst z; exact List.mem_append_left _ hU
  ·exact List.mem_append_right _ z
 ·refine ⟨F.same,(h2.same (zde fun a ha=>List.mem_append_right _ ha)).hd ?_⟩
  rw [zT (F.out hU)]; exact h1
noncomputable def gApp (i:Nat) (g:DS->Option D):DS->Option Res:=fun δ=>(gVar i δ).bind fun x=>(g δ).bind fun d=>match x with
 | .list ds=>if ds.length < 100000 then some (.nx (δ.set i (some (.list (ds ++ [d]))))) else none
 | _=>none
set_option tactic.hygienic true in
theorem zck {i:Nat} (h:PS X st (tDrop (tBM X.K "list" rAppend (tVar i) (tCons (tE X.K O ge) tNil)))) (hi:i∈O:=by decide):PS X st (tS X.K O fr (gApp i ge)):=h.mono fun E σ H hh=>hh.e fun H0 U A0 δ r R F ed P=>by
 obtain ⟨x,e1,e2⟩:=bind1 ed
 obtain ⟨d,e3,e4⟩:=bind1 e2
 rcases R.owL i x hi (zy e1) with ⟨l,ys,ds,hl,rfl,hU,h1,h2⟩ | ⟨kds,rfl⟩
 rotate_left
 ·(exfalso; simp_all; done)
 simp only at e4
 split at e4
 ·rename_i hz
  cases e4
  refine ⟨.ref l,hl,.inl ⟨rfl,ys,SqL.of h1⟩,U,A0,δ,d,R,e3,fun v H' s hv=>?_⟩
  have h1':=s _ _ h1
  have h2':=h2.same (zaK (A:=U ++ A0) s)
  have hlen:=h2.len
  refine ⟨l,ys,v,rfl,rfl,h1',small' (by omega),?_⟩
  exact P U σ _ ((R.same s).put hi hl hU (h2'.app (.cons hv .nil)) ⟨_,zy e1⟩) ((F.grow s).put hU _)
 ·cases e4
end
noncomputable def whN (c:DS->Option Bool) (b:DS->Option Res):Nat->DS->Option Res
 | 0,_=>none
 | n + 1,δ=>(c δ).bind fun x=>if x=true then (b δ).bind (fun | .nx δ'=>whN c b n δ' | .ct δ'=>whN c b n δ' | .bk δ'=>some (.nx δ') | .rt d=>some (.rt d)) else some (.nx δ)
theorem zii {c:DS->Option Bool} {b:DS->Option Res}:∀ {n:Nat} {δ:DS} {r:Res},whN c b n δ=some r->whN c b (n + 1) δ=some r
 | 0,_,_,h=>by cases h
 | n + 1,δ,r,h=>by
   rw [whN] at h ⊢
   obtain ⟨x,e1,e2⟩:=bind1 h
   rw [e1,Option.bind_some]
   cases x with
   | false=>exact e2
   | true=>
     rw [if_pos rfl] at e2 ⊢
     obtain ⟨q,e3,e4⟩:=bind1 e2
     rw [e3,Option.bind_some]
     cases q with
     | nx δ'=>exact zii e4
     | ct δ'=>exact zii e4
     | bk _=>exact e4
     | rt _=>exact e4
theorem zle {c:DS->Option Bool} {b:DS->Option Res} {n m:Nat} {δ:DS} {r:Res} (h:whN c b n δ=some r) (hm:n<=m):whN c b m δ=some r:=by
 induction hm with
 | refl=>exact h
 | step _ ih=>exact zii ih
open Classical in
noncomputable def gWhile (c:DS->Option Bool) (b:DS->Option Res):DS->Option Res:=fun δ=>if h:∃ p:Nat×Res,whN c b p.1 δ=some p.2 then some (choose h).2 else none
set_option tactic.hygienic true in
theorem zfX {c:DS->Option Bool} {b:DS->Option Res} {δ:DS} {r:Res} (h:gWhile c b δ=some r):∃ n,whN c b n δ=some r:=by
 unfold gWhile at h
 split at h
 ·rename_i hp
  cases h
  exact ⟨_,Classical.choose_spec hp⟩
 ·cases h
theorem zid {c:DS->Option Bool} {b:DS->Option Res} {n:Nat} {δ:DS} {r:Res} (h:whN c b n δ=some r):gWhile c b δ=some r:=by
 have hp:∃ p:Nat×Res,whN c b p.1 δ=some p.2:=⟨(n,r),h⟩
 unfold gWhile
 rw [dif_pos hp]
 have h2:=Classical.choose_spec hp
 have a1:=zle h (Nat.le_max_left n (Classical.choose hp).1)
 have a2:=zle h2 (Nat.le_max_right n (Classical.choose hp).1)
 rw [a1] at a2
 exact a2.symm
theorem zfm {c:DS->Option Bool} {b:DS->Option Res} (W:Nat->DS->Prop) (r:DS->Res->Prop) (m:Nat) (δ:DS) (h:W m δ)
  (hs:∀ m δ,W m δ->(c δ=some false /\ r δ (.nx δ)) \/ (c δ=some true /\ ((∃ δ' m',(b δ=some (.nx δ') \/ b δ=some (.ct δ')) /\ m' < m /\ W m' δ' /\ ∀ q,r δ' q->r δ q) \/ (∃ δ',b δ=some (.bk δ') /\ r δ (.nx δ')) \/ ∃ d,b δ=some (.rt d) /\ r δ (.rt d)))):
  ∃ q,gWhile c b δ=some q /\ r δ q:=by
 suffices hh:∀ k m δ,m < k->W m δ->∃ n q,whN c b n δ=some q /\ r δ q by
  obtain ⟨n,q,e,hq⟩:=hh (m + 1) m δ (Nat.lt_succ_self m) h
  exact ⟨q,zid e,hq⟩
 intro k
 induction k with
 | zero=>intro m δ hm; omega
 | succ k ih=>
   intro m δ hm hW
   rcases hs m δ hW with ⟨hc,hr⟩ | ⟨hc,⟨δ',m',hb,hlt,hW',imp⟩ | ⟨δ',hb,hr⟩ | ⟨d,hb,hr⟩⟩
   ·exact ⟨1,_,by rw [whN,hc]; rfl,hr⟩
   ·obtain ⟨n,q,e,hq⟩:=ih m' δ' (by omega) hW'
    refine ⟨n + 1,q,?_,imp q hq⟩
    rw [whN,hc,Option.bind_some,if_pos rfl]
    rcases hb with hb | hb <;> rw [hb,Option.bind_some] <;> exact e
   ·exact ⟨1,_,by rw [whN,hc,Option.bind_some,if_pos rfl,hb]; rfl,hr⟩
   ·exact ⟨1,_,by rw [whN,hc,Option.bind_some,if_pos rfl,hb]; rfl,hr⟩
section
variable {X:Cx} {O:List Nat} {fr:Fr} {body:List Stmt} {gb:DS->Option Res} {gc:DS->Option Bool} {c:Expr} {pos:Pos}
theorem zcX (hp:PassesOwn (model X.prog X.w) X.A X.env X.xe) (hc:PT X c (tT X.K O gc)) (hb:PSs X body (tS X.K O fr gb)):PS X (.While c body [] pos) (tS X.K O fr (gWhile gc gb)):=(zkk hp hc hb).mono fun E σ H hh=>hh.e fun H0 U A0 δ r R F ed P=>by
 obtain ⟨n,en⟩:=zfX ed
 refine ⟨fun m σ H=>∃ U δ,Rel X.K O U A0 σ δ H /\ Fx H0 A0 U H /\ whN gc gb m δ=some r,⟨n,U,δ,R,F,en⟩,?_⟩
 rintro m σ H ⟨U,δ,R,F,em⟩
 cases m with
 | zero=>cases em
 | succ m=>
   rw [whN] at em
   obtain ⟨x,e1,e2⟩:=bind1 em
   refine ⟨U,A0,δ,x,R,e1,fun H' s=>?_⟩
   cases x with
   | false=>rw [if_neg Bool.false_ne_true] at e2 ⊢; cases e2; exact P U σ H' (R.same s) (F.grow s)
   | true=>
     rw [if_pos rfl] at e2 ⊢
     obtain ⟨q,e3,e4⟩:=bind1 e2
     refine ⟨fun σ' H'=>∃ m',m' < m + 1 /\ ∃ U δ,Rel X.K O U A0 σ' δ H' /\ Fx H0 A0 U H' /\ whN gc gb m' δ=some r,fun _ _ h=>h,H0,U,A0,δ,q,R.same s,F.grow s,e3,?_⟩
     cases q with
     | nx δ'=>exact fun U' σ' H' R' F'=>⟨m,Nat.lt_succ_self m,U',δ',R',F',e4⟩
     | ct δ'=>exact fun U' σ' H' R' F'=>⟨m,Nat.lt_succ_self m,U',δ',R',F',e4⟩
     | bk δ'=>cases e4; exact P
     | rt d=>cases e4; exact P
end
noncomputable def gName' (i:Nat):D->DS->Option DS:=fun d δ=>some (δ.set i (some d))
noncomputable def gTupT (n:Nat) (g:List D->DS->Option DS):D->DS->Option DS:=fun d δ=>match d with
 | .tuple ds=>if ds.length=n then g ds δ else none
 | _=>none
noncomputable def gNilT:List D->DS->Option DS:=fun ds δ=>if ds=[] then some δ else none
noncomputable def gConsT (t:D->DS->Option DS) (u:List D->DS->Option DS):List D->DS->Option DS:=fun ds δ=>match ds with
 | d :: r=>(t d δ).bind fun δ'=>u r δ'
 | []=>none
noncomputable def tGs (K:PySem.W.Frag) (O:List Nat) (g:List D->DS->Option DS):TGs:=fun vs σ H Q=>∃ U A0 δ ds δ',Rel K O U A0 σ δ H /\ HDs K (wo H (U ++ A0)) vs ds /\ g ds δ=some δ' /\ ∀ σ',Rel K O U A0 σ' δ' H->Q σ' H
theorem tGs.e {K:PySem.W.Frag} {O:List Nat} {g:List D->DS->Option DS}  {vs:_} {σ:_} {H:_} {Q:_} {GG:Prop} (hh:tGs K O g vs σ H Q) (kk:∀ U A0 δ ds δ',(Rel K O U A0 σ δ H)->(HDs K (wo H (U ++ A0)) vs ds)->(g ds δ=some δ')->(∀ σ',Rel K O U A0 σ' δ' H->Q σ' H)->GG):GG:=by obtain ⟨U,A0,δ,ds,δ',x0,x1,x2,x3⟩:=hh; exact kk U A0 δ ds δ' x0 x1 x2 x3
section
variable {X:Cx} {O:List Nat} {e:Expr} {es:List Expr} {pos:Pos}
theorem PGs.mono {t t':TGs} (h:PGs X es t) (m:∀ v σ H Q,t' v σ H Q->t v σ H Q):PGs X es t':=fun pins s σ H v u Q I r q=>h pins s σ H v u Q I r (m v σ H Q q)
theorem zC {i:Nat} (h:PG X e (gName i)) (hi:i∉O:=by decide):PG X e (tG X.K O (gName' i)):=h.mono fun v σ H Q hh=>hh.e fun U A0 δ d δ' R hd e1 q=>by
 cases e1
 exact q _ (R.set hi hd)
set_option tactic.hygienic true in
theorem zjk:PGs X [] (tGs X.K O gNilT):=zlN.mono fun vs σ H Q hh=>hh.e fun U A0 δ ds δ' R hd e1 q=>by
 unfold gNilT at e1
 split at e1
 ·rename_i hz
  cases e1
  subst hz
  cases hd
  exact ⟨rfl,q σ R⟩
 ·cases e1
theorem zcZ {t:D->DS->Option DS} {u:List D->DS->Option DS} (h1:PG X e (tG X.K O t)) (h2:PGs X es (tGs X.K O u)) (hs:(assignEach (e :: es) X.env).map (·.2)=assign e X.env :: (assignEach es X.env).map (·.2):=by rfl):PGs X (e :: es) (tGs X.K O (gConsT t u)):=
 (zjV h1 h2 hs).mono fun vs σ H Q hh=>hh.e fun U A0 δ ds δ' R hd e1 q=>by
  cases hd with
  | nil=>cases e1
  | cons hx hr=>
    obtain ⟨δ1,e2,e3⟩:=bind1 e1
    exact ⟨_,_,rfl,U,A0,δ,_,δ1,R,hx,e2,fun σ1 R1=>⟨U,A0,δ1,_,δ',R1,hr,e3,q⟩⟩
set_option tactic.hygienic true in
theorem zie {n k:Nat} {t:List D->DS->Option DS} (hc:X.calm=true) (h:PGs X es (tGs X.K O t)) (hn:(assignEach es X.env).length=n:=by rfl) (hst:(assignEach es X.env).findIdx? (·.1)=none:=by rfl):PG X (.Tuple es k pos) (tG X.K O (gTupT n t)):=
 (znL hc h hn hst).mono fun v σ H Q hh=>hh.e fun U A0 δ d δ' R hd e1 q=>by
  unfold gTupT at e1
  split at e1
  ·split at e1
   ·rename_i hz
    obtain ⟨a,xs,rfl,h1,h2⟩:=(ShD.of hd).tuple
    exact ⟨a,xs,rfl,h1,by rw [h2.len]; exact hz,U,A0,δ,_,δ',R,h2,e1,q⟩
   ·cases e1
  ·cases e1
end
noncomputable def forD (t:D->DS->Option DS) (b:DS->Option Res):List D->DS->Option Res
 | [],δ=>some (.nx δ)
 | d :: ds,δ=>(t d δ).bind fun δ1=>(b δ1).bind fun | .nx δ'=>forD t b ds δ' | .ct δ'=>forD t b ds δ' | .bk δ'=>some (.nx δ') | .rt d=>some (.rt d)
noncomputable def gFor (gi:DS->Option (List D)) (t:D->DS->Option DS) (b:DS->Option Res):DS->Option Res:=fun δ=>(gi δ).bind fun ds=>forD t b ds δ
theorem Fx.overW {H0 H H':Hp} {A0 U:List Addr} (F:Fx H0 A0 U H) (s:Same (wo H U) H'):Same H0 H':=fun a o e=>s a o (by
 rw [zT fun z=>?_]
 ·exact F.same _ _ e
 ·rw [F.new a z] at e; cases e)
set_option tactic.hygienic true in
theorem RetR.trans {K:PySem.W.Frag} {fr:Bool} {H0 H H':Hp} {A0 U:List Addr} {v:V} {d:D} (F:Fx H0 A0 U H) (h:RetR K fr (wo H U) A0 v d H'):RetR K fr H0 A0 v d H':=by
 have k:∀ a o,H0 a=some o->wo H U a=some o:=fun a o e=>by
  rw [zT fun z=>?_]
  ·exact F.same _ _ e
  ·rw [F.new a z] at e; cases e
 unfold RetR at h ⊢
 split
 ·rename_i hf
  rw [if_pos hf] at h
  obtain ⟨r,ob,a,c,e,f,g⟩:=h
  refine ⟨r,ob,a,fun x o q=>c _ _ (k x o q),?_,f,g⟩
  cases q:H0 r with
  | none=>rfl
  | some o=>rw [k r o q] at e; cases e
 ·rename_i hf
  rw [if_neg hf] at h
  exact ⟨fun x o q=>h.1 _ _ (k x o q),h.2⟩
section
variable {X:Cx} {O:List Nat} {fr:Fr} {body:List Stmt} {gb:DS->Option Res} {gi:DS->Option (List D)} {tg iter:Expr} {gt:D->DS->Option DS} {pos:Pos}
theorem zbg (hp:PassesOwn (model X.prog X.w) X.A X.env X.xe) (hc:X.calm=true) (hi:PI X tg iter (tI X.K O gi)) (hg:PG X tg (tG X.K O gt)) (hb:PSs X body (tS X.K O fr gb))
  (hs:∀ x,foldedSetIterable iter X.env x=pure x:=by intro _; rfl):PS X (.For tg iter body [] pos) (tS X.K O fr (gFor gi gt gb)):=(znw hp hc hi hg hb hs).mono fun E σ H hh=>hh.e fun H0 U A0 δ r R F ed P=>by
 obtain ⟨ds,e1,e2⟩:=bind1 ed
 refine ⟨U,A0,δ,ds,R,e1,fun J H1 s hw=>?_⟩
 have F1:=F.grow s
 refine ⟨fun i m σ H=>m=ds.length - i /\ i<=ds.length /\ ∃ U2 δ,Rel X.K O U2 A0 σ δ H /\ Fx H0 A0 U2 H /\ Fx (wo H1 U) A0 U2 H /\ forD gt gb (ds.drop i) δ=some r,⟨ds.length,by simp,Nat.zero_le _,U,δ,R.same s,F1,F1.here,by simpa using e2⟩,?_⟩
 rintro i m σ H ⟨rfl,hle,U2,δ,R2,F2,G2,ef⟩
 obtain ⟨hgo,hstop⟩:=hw (U2 ++ A0) i H G2.keeps R2.al
 by_cases hlt:i < ds.length
 ·obtain ⟨d,hd⟩:∃ d,ds[i]?=some d:=⟨_,List.getElem?_eq_getElem hlt⟩
  have hdrop:ds.drop i=d :: ds.drop (i + 1):=by
   rw [List.drop_eq_getElem_cons hlt]
   rw [List.getElem?_eq_getElem hlt] at hd
   cases hd; rfl
  obtain ⟨go,hy⟩:=hgo d hd
  rw [hdrop,forD] at ef
  obtain ⟨δ1,e3,e4⟩:=bind1 ef
  obtain ⟨q,e5,e6⟩:=bind1 e4
  refine .inr ⟨go,fun σ' H'=>∃ m',m' < ds.length - i /\ (m'=ds.length - (i + 1) /\ i + 1<=ds.length /\ ∃ U2 δ,Rel X.K O U2 A0 σ' δ H' /\ Fx H0 A0 U2 H' /\ Fx (wo H1 U) A0 U2 H' /\ forD gt gb (ds.drop (i + 1)) δ=some r),fun _ _ h=>h,fun x H2 y=>?_⟩
  obtain ⟨s2,hx⟩:=hy x H2 y
  refine ⟨U2,A0,δ,d,δ1,R2.same s2,hx,e3,fun σ' R'=>?_⟩
  have F3:=F2.grow s2
  have G3:=G2.grow s2
  refine ⟨wo H2 U2,U2,A0,δ1,q,R',F3.here,e5,?_⟩
  cases q with
  | nx δ'=>exact fun U' σ' H' R' F'=>⟨_,by omega,rfl,hlt,U',δ',R',F3.trans F',G3.trans F',e6⟩
  | ct δ'=>exact fun U' σ' H' R' F'=>⟨_,by omega,rfl,hlt,U',δ',R',F3.trans F',G3.trans F',e6⟩
  | bk δ'=>cases e6; exact fun U' σ' H' R' F'=>P U' σ' H' R' (F3.trans F')
  | rt d=>cases e6; exact ⟨fun v H' h=>P.1 v H' (h.trans F3),fun c H' e s=>P.2 c H' e (F3.overW s)⟩
 ·have hi:i=ds.length:=by omega
  subst hi
  rw [List.drop_length,forD] at ef
  cases ef
  exact .inl ⟨hstop rfl,P U2 σ H R2 F2⟩
end
noncomputable def rangeD (lo:Int) (n:Nat):List D:=(List.range n).map fun k:Nat=>PyData.int (lo + k)
theorem zdW {lo:Int} {n i:Nat} {d:D} (h:(rangeD lo n)[i]?=some d):i < n /\ d=.int (lo + i):=by
 unfold rangeD at h
 rw [List.getElem?_map] at h
 cases e:(List.range n)[i]? with
 | none=>rw [e] at h; cases h
 | some k=>
   rw [e] at h; cases h
   have hi:=(List.getElem?_eq_some_iff.mp e).1
   rw [List.length_range] at hi
   rw [List.getElem?_range hi] at e
   cases e
   exact ⟨hi,rfl⟩
theorem zdV {lo:Int} {n:Nat}:(rangeD lo n).length=n:=by unfold rangeD; simp
theorem zdd {K:PySem.W.Frag} {A:List Addr} {H1:Hp} {lo:Int} {n:Nat}:Walks K A H1 (Itr lo n) (rangeD lo n):=by
 intro A' i H _ _
 refine ⟨fun d hd=>?_,fun hi=>?_⟩
 ·obtain ⟨hi,rfl⟩:=zdW hd
  refine ⟨hi,fun x H2 y=>?_⟩
  obtain ⟨rfl,rfl⟩:=y
  exact ⟨Same.refl _,.int _⟩
 ·rw [zdV] at hi
  subst hi
  exact Nat.le_refl _
noncomputable def gRange1 (g:DS->Option (List D)):DS->Option (List D):=fun δ=>(g δ).bind fun | [.int j]=>if -(2 ^ 62)<=j /\ j < 2 ^ 62 then some (rangeD 0 j.toNat) else none | _=>none
noncomputable def gRange2 (g:DS->Option (List D)):DS->Option (List D):=fun δ=>(g δ).bind fun | [.int i,.int j]=>if -(2 ^ 62)<=i /\ i < 2 ^ 62 /\ -(2 ^ 62)<=j /\ j < 2 ^ 62 then some (rangeD i (j - i).toNat) else none | _=>none
noncomputable def gItems (g:DS->Option D):DS->Option (List D):=fun δ=>(g δ).bind fun | .list l=>some l | .tuple l=>some l | _=>none
section
variable {X:Cx} {O:List Nat} {tg a b e:Expr} {gr:DS->Option (List D)} {ge:DS->Option D} {pos p:Pos}
set_option tactic.hygienic true in
theorem zbr (hm:X.mg "range"=none) (ha:PA X [a] (tAs X.K O gr)) (hg:Gl X "range":=by rfl) (hs:starEach [a] X.env=[(false,eval a X.env)]:=by rfl):PI X tg (.Call (.Name "range" p) [a] [] pos) (tI X.K O (gRange1 gr)):=(zjc hg hm ha hs).mono fun σ H Q hh=>hh.e fun U A0 δ ds R ed q=>by
 obtain ⟨x,e1,e2⟩:=bind1 ed
 refine ⟨U,A0,δ,x,R,e1,fun vs H' s h=>?_⟩
 split at e2
 ·split at e2
  ·rename_i hz
   cases e2
   cases h with
   | cons h1 h2=>
     cases h2
     cases h1
     exact ⟨_,rfl,hz.1,hz.2,q _ H' s zdd⟩
  ·cases e2
 ·cases e2
set_option tactic.hygienic true in
theorem zfq (hm:X.mg "range"=none) (ha:PA X [a,b] (tAs X.K O gr)) (hg:Gl X "range":=by rfl) (hs:starEach [a,b] X.env=[(false,eval a X.env),(false,eval b X.env)]:=by rfl) (hs2:starEach [b] X.env=[(false,eval b X.env)]:=by rfl):PI X tg (.Call (.Name "range" p) [a,b] [] pos) (tI X.K O (gRange2 gr)):=(zjv hg hm ha hs hs2).mono fun σ H Q hh=>hh.e fun U A0 δ ds R ed q=>by
 obtain ⟨x,e1,e2⟩:=bind1 ed
 refine ⟨U,A0,δ,x,R,e1,fun vs H' s h=>?_⟩
 split at e2
 ·split at e2
  ·rename_i hz
   cases e2
   cases h with
   | cons h1 h2=>cases h2 with
     | cons h2 h3=>
       cases h3
       cases h1
       cases h2
       exact ⟨_,_,rfl,hz,q _ H' s zdd⟩
  ·cases e2
 ·cases e2
noncomputable def iSeq (K:PySem.W.Frag) (tl:TE):TI:=fun σ H R=>tl σ H fun x H1=>(∃ a,x=.ref a /\ (∃ xs,SqL K H1 a xs) /\ R (Itl K a) H1) \/ ∃ a,x=.ref a /\ (∃ xs,SqT K H1 a xs) /\ R (Itt K a) H1
theorem znc {l:Expr} {tl:TE} (hl:PE X l tl):PI X tg l (iSeq X.K tl):=by
 intro pins s σ H R I h
 refine thn (hl pins s σ H _ I h) fun v s1 ⟨x,H1,I1,r1,q1⟩=>?_
 rcases q1 with ⟨a,e,⟨xs,hq⟩,q⟩ | ⟨a,e,⟨xs,hq⟩,q⟩
 ·subst e
  cases r1
  obtain ⟨its,rv,p,hz⟩:=I1.list hq
  refine wpAny_pyIter_list p.isList ?_
  refine ⟨s1.heap.objs.size,[s1.heap.objs.size],_,_,H1,rfl,I1.kept (t':=s1.toks) fun b o e=>Heap.get?_push_of_some _ e,zh5 a _,⟨_,Heap.get?_push_size _ rfl,rfl,rfl⟩,fun b hb=>?_,q⟩
  have e:b=s1.heap.objs.size:=by simpa using hb
  subst e
  exact I1.fpOk (Nat.le_refl _) (I1.hok.fresh (Nat.le_refl _))
 ·subst e
  cases r1
  obtain ⟨its,rv,p,hz⟩:=I1.tuple hq
  refine wpAny_pyIter_tuple (show s1.heap.IsTuple a its.toArray from p) ?_
  refine ⟨s1.heap.objs.size,[s1.heap.objs.size],_,_,H1,rfl,I1.kept (t':=s1.toks) fun b o e=>Heap.get?_push_of_some _ e,zhu a _,⟨_,Heap.get?_push_size _ rfl,rfl,rfl⟩,fun b hb=>?_,q⟩
  have e:b=s1.heap.objs.size:=by simpa using hb
  subst e
  exact I1.fpOk (Nat.le_refl _) (I1.hok.fresh (Nat.le_refl _))
theorem za7 (h:PE X e (tE X.K O ge)):PI X tg e (tI X.K O (gItems ge)):=(znc h).mono fun σ H Q hh=>hh.e fun U A0 δ ds R ed q=>by
 obtain ⟨x,e1,e2⟩:=bind1 ed
 cases x with
 | list l=>
   cases e2
   refine ⟨U,A0,δ,_,R,e1,fun v H' s h=>?_⟩
   cases h with
   | lst hq h=>
     refine .inl ⟨_,rfl,⟨_,(hq.same zah).sq⟩,q _ H' s ?_⟩
     intro A' i H2 s2 _
     have hq2:=hq.same s2
     have h2:=h.same s2
     have hL:SqL X.K H2 _ _:=(hq2.same zah).sq
     refine ⟨fun d hd=>?_,fun hi=>⟨_,hL,by rw [h2.len]; omega⟩⟩
     obtain ⟨x,hx,hxd⟩:=h2.get hd
     refine ⟨⟨_,x,hL,hx⟩,fun y H3 hy=>?_⟩
     obtain ⟨rfl,hy⟩:=hy
     have:=hy _ hL
     rw [hx] at this
     cases this
     exact ⟨Same.refl _,hxd⟩
 | tuple l=>
   cases e2
   refine ⟨U,A0,δ,_,R,e1,fun v H' s h=>?_⟩
   cases h with
   | tup hq h=>
     refine .inr ⟨_,rfl,⟨_,(.inl (zah.tupT hq))⟩,q _ H' s ?_⟩
     intro A' i H2 s2 _
     have hq2:=s2.tupT hq
     have h2:=h.same s2
     have hL:SqT X.K H2 _ _:=.inl (zah.tupT hq2)
     refine ⟨fun d hd=>?_,fun hi=>⟨_,hL,by rw [h2.len]; omega⟩⟩
     obtain ⟨x,hx,hxd⟩:=h2.get hd
     refine ⟨⟨_,x,hL,hx⟩,fun y H3 hy=>?_⟩
     obtain ⟨rfl,hy⟩:=hy
     have:=hy _ hL
     rw [hx] at this
     cases this
     exact ⟨Same.refl _,hxd⟩
 | _=>cases e2
end
noncomputable def captD (ix:List Nat) (δ:DS):DS:=ix.map fun j=>(δ[j]?).join
noncomputable def mapD (f:D->Option D):List D->Option (List D)
 | []=>some []
 | d :: ds=>(f d).bind fun x=>(mapD f ds).bind fun xs=>some (x :: xs)
noncomputable def gComp (gi:DS->Option (List D)) (ix:List Nat) (ge:DS->Option D):DS->Option (List D):=fun δ=>(gi δ).bind fun ds=>if ds.length<=100000 then mapD (fun d=>ge (some d :: captD ix δ)) ds else none
section
variable {X:Cx} {O:List Nat} {fr:Fr} {scope:Scope} {x:Str} {elt iter:Expr} {px pos:Pos} {gi:DS->Option (List D)} {ge:DS->Option D}
theorem PS.nE {st:Stmt} {i:Nat} {g:DS->Option (List D)} (h:PS X st (tAsg (tN X.K O g) (gName i))):PS X st (tAsg (tE X.K O (gLst g)) (gName i)):=h.mono fun _ _ _ h=>znH h
end
noncomputable def gOut:Res->Option D
 | .rt d=>some d
 | .nx _=>some .none
 | _=>none
noncomputable def gOutN:Res->Option (List D)
 | .rt (.list l)=>some l
 | _=>none
noncomputable def gDef (n:Nat) (g:DS->Option Res):List D->Option D:=fun ds=>(g (ds.map some ++ List.replicate (n - ds.length) none)).bind gOut
noncomputable def gDefN (n:Nat) (g:DS->Option Res):List D->Option (List D):=fun ds=>(g (ds.map some ++ List.replicate (n - ds.length) none)).bind gOutN
theorem Rel.start {K:PySem.W.Frag} {O:List Nat} {A:List Addr} {N:List Str} {vs:List V} {ds:List D} {H:Hp} (al:Ls A H) (h:HDs K (wo H A) vs ds) (hO:∀ i∈O,ds.length<=i):Rel K O [] A (start N vs) (ds.map some ++ List.replicate (N.length - ds.length) none) H:=by
 have hl:=h.len
 have none_of:∀ (i:Nat) d,ds.length<=i->(ds.map some ++ List.replicate (N.length - ds.length) none)[i]?=some (some d)->False:=by
  intro i d hi q
  rw [List.getElem?_append_right (by simpa using hi)] at q
  have:=List.mem_of_getElem? q
  rw [List.mem_replicate] at this
  exact absurd this.2 (by simp)
 exact {
  len:=by unfold L2.start; simp [hl]
  fz:=fun i d _ q=>by
   by_cases hi:i < ds.length
   ·rw [List.getElem?_append_left (by simpa using hi),List.getElem?_map,List.getElem?_eq_getElem hi] at q
    simp only [Option.map_some,Option.some.injEq] at q
    obtain ⟨v,e,hv⟩:=h.get (List.getElem?_eq_getElem hi)
    refine ⟨v,?_,?_⟩
    ·unfold L2.start
     rw [List.getElem?_append_left (by rw [List.length_map]; omega),List.getElem?_map,e]; rfl
    ·rw [List.nil_append,<- q]; exact hv
   ·exact (none_of i d (by omega) q).elim
  ow:=fun i d hi q=>(none_of i d (hO i hi) q).elim
  inj:=fun i j d e l hi _ _ q=>(none_of i d (hO i hi) q).elim
  al:=al }
theorem Fx.start {A:List Addr} {H:Hp} (al:Ls A H):Fx H A [] H:=⟨Same.refl H,fun _ h=>by simp at h,al⟩
section
variable {P:Program} {w:World} {K:PySem.W.Frag} {mg:Str->Option Value} {base:Heap} {x:Str} {st:Stmt} {N ps:List Str} {k:Nat}
theorem zam (O:List Nat) (g:DS->Option Res) (F:Df K mg x st ps) (S:FnScope N ps (defScope st))
  (body:∀ (f:Addr) (cdv:Value) (A:Around) (outer:List Env) (s:Shared) (H:Hp) (E:XK),Room k (A.deeper (envOfC x (defScope st) s.heap.objs.size f cdv))->PSs (cxOf CX0 P w K mg base N x (defScope st) f cdv A outer s H E).nox (defBody st) (tS K O (false,fun _ _=>True) g))
  (hO:∀ i∈O,ps.length<=i:=by decide) {n m:Nat} (hN:N.length=n:=by rfl) (hP:ps.length=m:=by rfl):Dn P w K mg base (k + 1) x ps (spD K m (gDef n g)):=by
 subst hN hP
 refine F.ok S (fun vs H Q E h=>h.1) (fun f cdv A outer s H vs Q E hr h=>⟨_,body f cdv A outer s H E hr,?_⟩)
 obtain ⟨hn,A',ds,d,al,hd,e,q⟩:=h
 obtain ⟨r,e1,e2⟩:=bind1 e
 refine ⟨H,[],A',_,r,Rel.start al hd (fun i hi=>by have:=hO i hi; rw [<- hd.len,hn]; exact this),Fx.start al,e1,?_⟩
 cases r with
 | nx δ=>cases e2; exact fun U σ H' R F'=>q .non H' F'.same .non
 | rt d=>cases e2; exact ⟨fun v H' h=>by unfold RetR at h; rw [if_neg Bool.false_ne_true] at h; exact q v H' h.1 h.2,fun _ _ _ _=>trivial⟩
 | bk _=>cases e2
 | ct _=>cases e2
theorem zoo {f:Addr} {fd:FuncData} (O:List Nat) (g:DS->Option Res) (F:Fun K x x st f fd) (S:FnScope N ps (defScope st))
  (body:∀ (f:Addr) (cdv:Value) (A:Around) (outer:List Env) (s:Shared) (H:Hp) (E:XK),Room k (A.deeper (envOfC x (defScope st) s.heap.objs.size f cdv))->PSs (cxOf CX0 P w K mg base N x (defScope st) f cdv A outer s H E).nox (defBody st) (tS K O (false,fun _ _=>True) g))
  (hO:∀ i∈O,ps.length<=i:=by decide) {n m:Nat} (hN:N.length=n:=by rfl) (hP:ps.length=m:=by rfl):FnOk P w K mg base CX0 (k + 1) f fd ps (spD K m (gDef n g)):=by
 subst hN hP
 refine F.ok S (fun vs H Q E h=>h.1) (fun cdv A outer s H vs Q E hr h=>⟨_,body f cdv A outer s H E hr,?_⟩)
 obtain ⟨hn,A',ds,d,al,hd,e,q⟩:=h
 obtain ⟨r,e1,e2⟩:=bind1 e
 refine ⟨H,[],A',_,r,Rel.start al hd (fun i hi=>by have:=hO i hi; rw [<- hd.len,hn]; exact this),Fx.start al,e1,?_⟩
 cases r with
 | nx δ=>cases e2; exact fun U σ H' R F'=>q .non H' F'.same .non
 | rt d=>cases e2; exact ⟨fun v H' h=>by unfold RetR at h; rw [if_neg Bool.false_ne_true] at h; exact q v H' h.1 h.2,fun _ _ _ _=>trivial⟩
 | bk _=>cases e2
 | ct _=>cases e2
theorem zb1 (O:List Nat) (g:DS->Option Res) (F:Df K mg x st ps) (S:FnScope N ps (defScope st))
  (body:∀ (f:Addr) (cdv:Value) (A:Around) (outer:List Env) (s:Shared) (H:Hp) (E:XK),Room k (A.deeper (envOfC x (defScope st) s.heap.objs.size f cdv))->PSs (cxOf CX0 P w K mg base N x (defScope st) f cdv A outer s H E).nox (defBody st) (tS K O (true,fun _ _=>True) g))
  (hO:∀ i∈O,ps.length<=i:=by decide) {n m:Nat} (hN:N.length=n:=by rfl) (hP:ps.length=m:=by rfl):Dn P w K mg base (k + 1) x ps (spN K m (gDefN n g)):=by
 subst hN hP
 refine F.ok S (fun vs H Q E h=>h.1) (fun f cdv A outer s H vs Q E hr h=>⟨_,body f cdv A outer s H E hr,?_⟩)
 obtain ⟨hn,A',ds,d,al,hd,e,q⟩:=h
 obtain ⟨r,e1,e2⟩:=bind1 e
 refine ⟨H,[],A',_,r,Rel.start al hd (fun i hi=>by have:=hO i hi; rw [<- hd.len,hn]; exact this),Fx.start al,e1,?_⟩
 cases r with
 | rt d'=>
   refine ⟨fun v H' h=>?_,fun _ _ _ _=>trivial⟩
   unfold RetR at h
   rw [if_pos rfl] at h
   obtain ⟨r,ob,rfl,a,b,c,f⟩:=h
   cases f with
   | lst f=>cases e2; exact q r _ H' a b c f
   | dct _ _=>cases e2
 | nx δ=>cases e2
 | bk _=>cases e2
 | ct _=>cases e2
end
end L2
namespace L2
open PySem PySem.Spec PyProof.Rows
noncomputable def gChain (f f':D->D->Option D) (a b c:DS->Option D):DS->Option D:=fun δ=>(a δ).bind fun x=>(b δ).bind fun y=>(f x y).bind fun z=>match z with
 | .bool true=>(c δ).bind fun w=>f' y w
 | .bool false=>some (.bool false)
 | _=>none
section
variable {X:Cx} {O:List Nat} {a b c:Expr} {ga gb gc:DS->Option D} {pos:Pos} {r r':R2}
theorem zg0 {K:PySem.W.Frag} {f f':D->D->Option D} (imp:Imp2 K r f) (imp':Imp2 K r' f') {σ:St} {H:Hp} {Q:VK}:tE K O (gChain f f' ga gb gc) σ H Q->tChain r r' (tSh K O ga) (tSh K O gb) (tSh K O gc) σ H Q:=fun ⟨U,A0,δ,d,R,ed,q⟩=>by
 obtain ⟨x,e1,ed⟩:=bind1 ed
 obtain ⟨y,e2,ed⟩:=bind1 ed
 obtain ⟨z,e3,ed⟩:=bind1 ed
 refine ⟨U,A0,δ,x,R,e1,fun v1 H1 s1 h1=>⟨U,A0,δ,y,R.same s1,e2,fun v2 H2 s2 h2=>imp _ H2 v1 v2 x y z _ (R.same (s1.trans s2)).al (h1.same s2) h2 e3 fun v3 H3 s3 h3=>?_⟩⟩
 cases z with
 | bool k=>
   cases h3
   refine ⟨k,rfl,?_⟩
   cases k with
   | true=>
     obtain ⟨w,e4,e5⟩:=bind1 ed
     first
      | rw [if_pos rfl]
      | skip
     exact ⟨U,A0,δ,w,R.same ((s1.trans s2).trans s3),e4,fun v4 H4 s4 h4=>imp' _ H4 v2 v4 y w d Q (R.same (((s1.trans s2).trans s3).trans s4)).al (h2.same (s3.trans s4)) h4 e5 fun v H' s h=>q v H' ((((s1.trans s2).trans s3).trans s4).trans s) h⟩
   | false=>
     cases ed
     first
      | rw [if_neg Bool.false_ne_true]
      | skip
     exact q _ H3 ((s1.trans s2).trans s3) (.bl _)
 | _=>cases ed
theorem zeH {op op':CmpOp} {f f':D->D->Option D} (ho:OpR X (compareOp op) r) (imp:Imp2 X.K r f) (ho':OpR X (compareOp op') r') (imp':Imp2 X.K r' f') (ha:PE X a (tSh X.K O ga)) (hb:PE X b (tSh X.K O gb)) (hc:PE X c (tSh X.K O gc)) (hm:lastMarks [op,op'] [b,c]=false:=by with_unfolding_all rfl):PE X (.Compare a [op,op'] [b,c] pos) (tE X.K O (gChain f f' ga gb gc)):=(zkH ho ho' ha hb hc hm).mono fun _ _ _=>zg0 imp imp'
theorem zc5 {op op':CmpOp} {f f':D->D->Option D} (ho:OpR X (compareOp op) r) (imp:Imp2 X.K r f) (ho':OpR X (compareOp op') r') (imp':Imp2 X.K r' f') (ha:PE X a (tSh X.K O ga)) (hb:PE X b (tSh X.K O gb)) (hc:PE X c (tSh X.K O gc)) (hm:lastMarks [op,op'] [b,c]=false:=by with_unfolding_all rfl):PT X (.Compare a [op,op'] [b,c] pos) (tT X.K O (gB (gChain f f' ga gb gc))):=(zjT ho ho' ha hb hc hm).mono fun _ _ _=>zne fun _ _ _=>zg0 imp imp'
end
noncomputable def gPar (i j:Nat) (g:DS->Option (List D)):DS->Option Res:=fun δ=>(g δ).bind fun | [x,y]=>some (.nx ((δ.set i (some x)).set j (some y))) | _=>none
section
variable {X:Cx} {O:List Nat} {fr:Fr} {st:Stmt} {gr:DS->Option (List D)} {i j:Nat}
theorem znO (h:PS X st (tPar i j (tAs X.K O gr))) (hi:i∉O:=by decide) (hj:j∉O:=by decide):PS X st (tS X.K O fr (gPar i j gr)):=h.mono fun E σ H hh=>hh.e fun H0 U A0 δ r R F ed P=>by
 obtain ⟨ds,e1,e2⟩:=bind1 ed
 split at e2
 ·cases e2
  refine ⟨U,A0,δ,_,R,e1,fun vs H' s hv=>?_⟩
  cases hv with
  | cons h1 h2=>cases h2 with
    | cons h2 h3=>
      cases h3
      exact ⟨_,_,rfl,P U _ H' (((R.same s).set hi h1).set hj h2) (F.grow s)⟩
 ·cases e2
end
noncomputable def dBits:D->Option D
 | .int i=>some (.int (Builtin.Int.intBits i:Nat))
 | _=>none
theorem ziV {X:Cx} {O:List Nat} {o:Expr} {ga:DS->Option D} {apos cpos:Pos} (ho:PE X o (tSh X.K O ga)) (hbase:attributeBase o "bit_length" X.env (eval o X.env)=eval o X.env:=by rfl) (hline:(apos.endLine == cpos.line)=true:=by rfl):
  PE X (.Call (.Attribute o "bit_length" apos) [] [] cpos) (tE X.K O (g1 dBits ga)):=(zlx ho hbase hline).mono fun σ H Q hh=>hh.e fun U A0 δ d R ed q=>by
 obtain ⟨x,e1,e2⟩:=bind1 ed
 cases x with
 | int i=>
   cases e2
   refine ⟨U,A0,δ,_,R,e1,fun v H' s h=>?_⟩
   rw [h.int]
   exact ⟨rfl,i,rfl,rfl,q _ H' s (.int _)⟩
 | _=>cases e2
noncomputable abbrev dShr:D->D->Option D:=dIc (fun _ j=>0<=j) fun i j=>.int (i / 2 ^ j.toNat)
noncomputable def flatD:D->Bool
 | .none | .bool _ | .int _ | .str _=>true
 | _=>false
noncomputable def dV:D->V
 | .none=>.non
 | .bool b=>.bl b
 | .int i=>.int i
 | .str x=>.str x
 | _=>.non
noncomputable def eqD (a b:D):Bool:=eqV (dV a) (dV b)
noncomputable def dIn:D->D->Option D:=fun x y=>match y with
 | .list l=>if (flatD x && l.all flatD)=true then some (.bool (l.any fun z=>eqD z x)) else none
 | .tuple l=>if (flatD x && l.all flatD)=true then some (.bool (l.any fun z=>eqD z x)) else none
 | _=>none
theorem ShD.flat {K:PySem.W.Frag} {A:List Addr} {H:Hp} {v:V} {d:D} (h:ShD K A H v d) (f:flatD d=true):v=dV d /\ flatV v=true:=by
 cases d with
 | none=>rw [h.non]; exact ⟨rfl,rfl⟩
 | bool b=>rw [h.bool]; exact ⟨rfl,rfl⟩
 | int i=>rw [h.int]; exact ⟨rfl,rfl⟩
 | str x=>rw [h.str]; exact ⟨rfl,rfl⟩
 | _=>cases f
theorem HDs.flat {K:PySem.W.Frag} {H:Hp}:∀ {xs:List V} {ds:List D},HDs K H xs ds->ds.all flatD=true->xs=ds.map dV /\ xs.all flatV=true
 | _,_,.nil,_=>⟨rfl,rfl⟩
 | _,_,.cons h t,f=>by
   rw [List.all_cons,Bool.and_eq_true] at f
   obtain ⟨e1,e2⟩:=HDs.flat t f.2
   obtain ⟨e3,e4⟩:=(ShD.of (A:=[]) (by rw [zlk]; exact h)).flat f.1
   exact ⟨by rw [List.map_cons,<- e1,<- e3],by rw [List.all_cons,e4,e2]; rfl⟩
theorem znf (x:D) (l:List D):inV (dV x) (l.map dV)=l.any fun z=>eqD z x:=by
 unfold inV eqD
 rw [List.any_map]; rfl
section
variable {X:Cx}
theorem zn8:OpR X (compareOp .In) (rIn X.K false):=zh1
end
set_option tactic.hygienic true in
theorem zlX {K:PySem.W.Frag} {A:List Addr} {H:Hp} {x y:V} {dx dy d:D} (hx:ShD K A H x dx) (hy:ShD K A H y dy) (e:dIn dx dy=some d):∃ p xs b,y=.ref p /\ (SqL K H p xs \/ SqT K H p xs) /\ flatV x=true /\ xs.all flatV=true /\ d=.bool b /\ inV x xs=b:=by
 unfold dIn at e
 split at e
 ·split at e
  ·rename_i hf
   rw [Bool.and_eq_true] at hf
   cases e
   obtain ⟨p,xs,rfl,h1,h2⟩:=hy.list
   obtain ⟨e1,e2⟩:=h2.flat hf.2
   obtain ⟨e3,e4⟩:=hx.flat hf.1
   exact ⟨p,xs,_,rfl,.inl h1.sq,e4,e2,rfl,by rw [e1,e3,znf]⟩
  ·cases e
 ·split at e
  ·rename_i hf
   rw [Bool.and_eq_true] at hf
   cases e
   obtain ⟨p,xs,rfl,h1,h2⟩:=hy.tuple
   obtain ⟨e1,e2⟩:=h2.flat hf.2
   obtain ⟨e3,e4⟩:=hx.flat hf.1
   exact ⟨p,xs,_,rfl,.inr h1,e4,e2,rfl,by rw [e1,e3,znf]⟩
  ·cases e
 ·cases e
theorem znI {K:PySem.W.Frag}:Imp2 K (rIn K false) dIn:=by
 intro A H x y dx dy d Q al hx hy e q
 obtain ⟨p,xs,b,h1,h2,h3,h4,rfl,h5⟩:=zlX hx hy e
 refine ⟨p,xs,h1,h2,h3,h4,?_⟩
 show Q (.bl (inV x xs)) H
 rw [h5]
 exact q _ H (Same.refl H) (.bl _)
theorem zjp (a b:Int):eqD (.int a) (.int b)=decide (a=b):=by
 simp only [eqD,dV,eqV]
 rw [Bool.beq_eq_decide_eq]
section
variable {X:Cx} {O:List Nat} {fr:Fr} {st:Stmt} {ge gx:DS->Option D} {gl:DS->Option (List D)} {i:Nat}
noncomputable def gExt (i:Nat) (g:DS->Option (List D)):DS->Option Res:=fun δ=>(gVar i δ).bind fun x=>(g δ).bind fun zs=>match x with
 | .list ds=>if ds.length + zs.length<=100000 then some (.nx (δ.set i (some (.list (ds ++ zs))))) else none
 | _=>none
set_option tactic.hygienic true in
theorem zfI (h:PS X st (tDrop (tBM X.K "list" rExtend (tVar i) (tCons (tN X.K O gl) tNil)))) (hi:i∈O:=by decide):PS X st (tS X.K O fr (gExt i gl)):=h.mono fun E σ H hh=>hh.e fun H0 U A0 δ r R F ed P=>by
 obtain ⟨x,e1,e2⟩:=bind1 ed
 obtain ⟨zs,e3,e4⟩:=bind1 e2
 rcases R.owL i x hi (zy e1) with ⟨l,ys,ds,hl,rfl,hU,h1,h2⟩ | ⟨kds,rfl⟩
 rotate_left
 ·(exfalso; simp_all; done)
 simp only at e4
 split at e4
 ·rename_i hz
  cases e4
  refine ⟨.ref l,hl,.inl ⟨rfl,ys,SqL.of h1⟩,U,A0,δ,zs,R,e3,fun p ws H' s hp hp1 hp2=>?_⟩
  have h1':=s _ _ h1
  have h2':=h2.same (zaK (A:=U ++ A0) s)
  have hp3:=hp2.same (zde (A':=U ++ A0) fun a ha=>List.mem_cons_of_mem _ ha)
  have hlen:=h2.len
  have hlen2:=hp2.len
  refine ⟨l,p,ys,ws,rfl,rfl,h1',hp1,small (by omega),?_⟩
  exact P U σ _ ((R.same s).put hi hl hU (h2'.app hp3) ⟨_,zy e1⟩) ((F.grow s).put hU _)
 ·cases e4
end
end L2
namespace L2
open PySem PySem.Spec PyProof.Rows
section
variable {X:Cx} {O:List Nat} {tg a:Expr} {ge:DS->Option D} {p pos:Pos}
end
end L2
namespace L2
open PySem PySem.Spec PyProof.Rows
section
variable {X:Cx} {pins:List (Addr×Obj)} {σ:St} {H:Hp} {s:Shared} {h':Heap}
theorem Inv.turnedL {t':Nat} {ch:List Addr} (I:Inv X pins σ H s) (k:∀ b o,b∉ch->s.heap.get? b=some o->h'.get? b=some o) (hf:∀ b∈ch,FpOk X pins H b):Inv X pins σ H { s with heap:=h',toks:=t' }:=by
 have nit:∀ b u,H b=some u->b∉ch:=fun b u e z=>by rw [(hf b z).1] at e; cases e
 refine I.step (g':=s.gens) (d':=s.drawn) (ch:=ch) (fun b hb=>?_) (fun b o _ _ hc e _=>k b o hc e) (fun b o _ _ hc e _=>⟨o.slots,k b o hc e⟩) (fun _ _ _ _ n=>n)
  (fun b o hc e=>⟨o,k b o hc e⟩) (fun _ _ e=>e) (fun _ _ _ e=>e) (fun b ps e=>⟨#[],by rw [e]; simp⟩) (fun m hm=>?_) (fun b u e=>?_) I.bare
 ·obtain ⟨_,a,_,b',c,d⟩:=hf b hb
  exact ⟨b',a,c,d⟩
 ·obtain ⟨o,es,ep,ho,r⟩:=hm
  exact ⟨o,es,ep,k _ o (fun z=>(hf _ z).2.1 rfl) ho,r⟩
 ·refine (I.hok b u e).stay (fun c v hc q=>k c v ?_ q) (fun _ q=>q) fun _ _ q=>q
  rcases hc with z | z
  ·rw [z]; exact nit b u e
  ·exact nit c _ z
theorem Inv.trackT {D:Addr} {ys:List V} {its:List Value} (I:Inv X pins σ H s) (hD:H D=none) (hs:X.s₀.heap.objs.size<=D) (hl:D≠X.env.locals) (hc:∀ x c,X.env.cells.lookup x=some c->c≠D)
  (hp:∀ p∈X.pn ++ pins,p.1≠D) (e:IsTup s.heap D its.toArray) (r:Vals ys its) (hz:ys.length<=sizeLine):Inv X pins σ (upd H D (.tup ys)) s:=by
 have h:=I.step (H':=upd H D (.tup ys)) (h':=s.heap) (g':=s.gens) (t':=s.toks) (d':=s.drawn) (ch:=[D]) (fun b hb=>by
   have e:b=D:=by simpa using hb
   subst e
   exact ⟨.inr hs,hl,hc,hp⟩)
  (fun b o _ _ _ q _=>q) (fun b o _ _ _ q _=>⟨o.slots,q⟩) (fun b o hb _ q=>by rw [zt (by simpa using hb)]; exact q) (fun b o _ q=>⟨o,q⟩)
  (fun b xs q=>by rw [zt (zu q hD)]; exact q) (fun b o u q=>by rw [zt (zu q hD)]; exact q) (fun b ps q=>⟨#[],by rw [zt (zu q hD),Array.append_empty]; exact q⟩) (fun m hm=>hm) (fun b u q=>?_) I.bare
 ·exact h
 ·by_cases hb:b=D
  ·subst hb
   rw [zH] at q; cases q
   exact ⟨hz,its,r,e⟩
  ·rw [zt hb] at q
   exact (I.hok b u q).stay (fun _ _ _ z=>z) (fun c z=>by rw [zt (zu z hD)]; exact z) fun c xs z=>z.new hD
end
theorem zcP:bootBuiltins "enumerate"=some (.type "enumerate"):=by decide +kernel
noncomputable def enumD (l:List D):List D:=l.zipIdx.map fun p=>.tuple [.int (p.2:Nat),p.1]
theorem zia {l:List D} {i:Nat} {d:D} (h:(enumD l)[i]?=some d):∃ x,l[i]?=some x /\ d=.tuple [.int (i:Nat),x]:=by
 unfold enumD at h
 rw [List.getElem?_map,List.getElem?_zipIdx] at h
 cases e:l[i]? with
 | none=>rw [e] at h; cases h
 | some x=>rw [e] at h; simp at h; exact ⟨x,rfl,h.symm⟩
theorem zjh {l:List D}:(enumD l).length=l.length:=by unfold enumD; simp
section
variable {X:Cx} {O:List Nat} {a:Expr} {ge:DS->Option D} {p pos:Pos} {es:List Expr} {kk} {tpos:Pos}
end
noncomputable def WalksS (K:PySem.W.Frag) (A:List Addr) (H1:Hp) (J:It) (ds:List D):Prop:=∀ (i:Nat) (H:Hp),Same H1 H->
 (∀ d,ds[i]?=some d->J.go i H /\ ∀ x H2,J.yld i H x H2->Same H H2 /\ HD K (wo H2 A) x d) /\ (i=ds.length->J.stop i H)
noncomputable def tIc (K:PySem.W.Frag) (O:List Nat) (g:DS->Option (List D)):TI:=fun σ H R=>∃ U A0 δ ds,Rel K O U A0 σ δ H /\ g δ=some ds /\ ∀ J H1,Same H H1->WalksS K (U ++ A0) H1 J ds->R J H1
theorem tIc.e {K:PySem.W.Frag} {O:List Nat} {g:DS->Option (List D)}  {σ:_} {H:_} {R:_} {GG:Prop} (hh:tIc K O g σ H R) (kk:∀ U A0 δ ds,(Rel K O U A0 σ δ H)->(g δ=some ds)->(∀ J H1,Same H H1->WalksS K (U ++ A0) H1 J ds->R J H1)->GG):GG:=by obtain ⟨U,A0,δ,ds,x0,x1,x2⟩:=hh; exact kk U A0 δ ds x0 x1 x2
section
variable {X:Cx} {O:List Nat} {tg e:Expr} {gi:DS->Option (List D)} {ge:DS->Option D} {pos:Pos}
theorem PI.c (h:PI X tg e (tI X.K O gi)):PI X tg e (tIc X.K O gi):=h.mono fun σ H Q hh=>hh.e fun U A0 δ ds R ed q=>⟨U,A0,δ,ds,R,ed,fun J H1 s hw=>q J H1 s fun i H2 s2=>hw (U ++ A0) i H2 (zaK s2) ((R.same (s.trans s2)).al)⟩
end
section
variable {X:Cx} {O:List Nat} {fr:Fr} {scope:Scope} {x:Str} {elt iter:Expr} {px pos:Pos} {gi:DS->Option (List D)} {ge:DS->Option D}
end
end L2
namespace LS
open PySem PySem.Spec PyProof.Rows
section
variable {prog:Program} {w:World} {A:Around} {E:Value->Shared->Prop} {s:Shared} {it t:Addr} {i:Nat} {items:Array Value}
theorem zht {x:Value} {Q:Value->Shared->Prop} (hit:s.heap.IsTupleIter it t i) (ht:s.heap.IsTuple t items) (hx:items[i]?=some x)
  (hQ:∀ h',h'.IsTupleIter it t (i + 1)->Heap.SameBut it s.heap h'->Q x { s with heap:=h' }):wpAny (model prog w) A (Builtin.SmallTypes.nextOf (.ref it)) Q E s:=by
 obtain ⟨o,ho,hc,hd⟩:=id hit
 obtain ⟨ol,hol,_,nl,hdl⟩:=ht
 unfold Builtin.SmallTypes.nextOf
 refine wpAny_bind (wpAny_callSpecial?_slot (name:=Str.ofString "__next__") hit.typeIs PySem.F.slot_tuple_iterator_next (wpAny_call_entry PySem.F.slot_tuple_iterator_next hit.typeIs PySem.F.entry_tuple_iterator_next ?_ (PySem.F.args_tuple_iterator_next_1 _)))
 show wpAny _ _ (field (.ref it) 0 >>= _) _ _ s
 refine wpAny_bind (wpAny_field ho hd (x:=.ref t) rfl ?_)
 show wpAny _ _ (if (Value.ref t == Value.none)=true then _ else _) _ _ s
 rw [if_neg (show ¬ ((Value.ref t == Value.none)=true) from Bool.false_ne_true)]
 show wpAny _ _ (field (.ref it) 1 >>= _) _ _ s
 refine wpAny_bind (wpAny_field ho hd (x:=.int i 0) rfl ?_)
 show wpAny _ _ (seqItems? (.ref t) >>= _) _ _ s
 refine wpAny_bind (wpAny_seqItems hol hdl ?_)
 simp only [Int.toNat_natCast,hx]
 refine wpAny_bind (wpAny_setField ho hd (by simp) (wpAny_pure ⟨x,rfl,wpAny_pure (hQ _ ?_ (Heap.SameBut.update ..))⟩))
 exact ⟨_,Heap.get?_update_self _ ho (Obj.isFreed_of_fields (Obj.data_mapFields hd _)),(Obj.cls_mapFields ..).trans hc,by rw [Obj.data_mapFields hd]; simp [rawInt]⟩
theorem zil {Q:Value->Shared->Prop} (hh:A.handled=none) (hit:s.heap.IsTupleIter it t i) (ht:s.heap.IsTuple t items) (hx:items[i]?=none)
  (hE:∀ h' e,Heap.ExtBut it s.heap h'->(∃ o,h'.get? e=some o /\ o.cls=.type "StopIteration")->E (.ref e) { s with heap:=h' }):wpAny (model prog w) A (Builtin.SmallTypes.nextOf (.ref it)) Q E s:=by
 obtain ⟨o,ho,hc,hd⟩:=id hit
 obtain ⟨ol,hol,_,nl,hdl⟩:=ht
 unfold Builtin.SmallTypes.nextOf
 refine wpAny_bind (wpAny_callSpecial?_slot (name:=Str.ofString "__next__") hit.typeIs PySem.F.slot_tuple_iterator_next (wpAny_call_entry PySem.F.slot_tuple_iterator_next hit.typeIs PySem.F.entry_tuple_iterator_next ?_ (PySem.F.args_tuple_iterator_next_1 _)))
 show wpAny _ _ (field (.ref it) 0 >>= _) _ _ s
 refine wpAny_bind (wpAny_field ho hd (x:=.ref t) rfl ?_)
 show wpAny _ _ (if (Value.ref t == Value.none)=true then _ else _) _ _ s
 rw [if_neg (show ¬ ((Value.ref t == Value.none)=true) from Bool.false_ne_true)]
 show wpAny _ _ (field (.ref it) 1 >>= _) _ _ s
 refine wpAny_bind (wpAny_field ho hd (x:=.int i 0) rfl ?_)
 show wpAny _ _ (seqItems? (.ref t) >>= _) _ _ s
 refine wpAny_bind (wpAny_seqItems hol hdl ?_)
 simp only [Int.toNat_natCast,hx]
 refine wpAny_bind (wpAny_rule (wpAny_bind (wpAny_setField ho hd (by simp) ?_)))
 show wpAny _ _ (newExc (.type "StopIteration") [] >>= _) _ _ _
 refine wpAny_bind ?_
 simp only [newExc,newTuple]
 refine wpAny_bind (wpAny_newObj_type ?_ (by size_fits))
 refine wpAny_bind (m:=firstArgMember _ _) (wpAny_of_eq (a:=Value.none) (by first | rfl | (simp only [firstArgMember]; rfl)) ?_)
 refine wpAny_newObj_type ?_ (by size_fits)
 simp only [raiseNew]
 refine wpAny_bind (wpAny_handled ?_)
 first | rw [show A.in1.handled=none from hh] | rw [hh]
 refine wpAny_bind (wpAny_pure (wpAny_throw ?_))
 exact hE _ _ (((Heap.SameBut.update ..).extBut.push _).push _) ⟨_,Heap.get?_push_size _ rfl,rfl⟩
theorem zbA (hh:A.handled=none) (it l:Addr) (hne:l≠it) (items:Array Value):
  Draws prog w A it [it,l] items.size (fun i v=>items[i]?=some v) (fun i h=>h.IsTupleIter it l i /\ h.IsTuple l items) where
 live:=fun _ _ st=>let ⟨o,ho,_⟩:=st.1; ⟨o,ho⟩
 frame:=fun _ _ _ st hk=>⟨st.1.at fun o e=>hk it (by simp) o e,st.2.at fun o e=>hk l (by simp) o e⟩
 item:=fun i s Q E hi st hQ=>zht st.1 st.2 (x:=items[i]) (by simp [hi]) fun h' hit' hs'=>hQ _ h' s.toks (by simp [hi]) ⟨hit',st.2.extBut hs'.extBut hne⟩ hs'
 done:=fun s Q E st hE=>zil hh st.1 st.2 (by simp) hE
end
set_option maxHeartbeats 1000000 in
set_option tactic.hygienic true in
theorem newT (l:Addr) (items:Array Value) (n:Nat) (dct:Option Addr) (sl:Array (Option Value)):
  Meets (Builtin.«enumerate.__new__» ⟨[.type "enumerate",.ref l],[]⟩) (fun _ R s=>s.heap.get? l=some { cls:=.type "tuple",dict:=dct,data:=.seq items n,slots:=sl } /\
   R (.ok (.ret (.ref (s.heap.push { cls:=.type "tuple_iterator",data:=.fields #[.ref l,.int 0 0] }).objs.size)))
     { s with heap:=(s.heap.push { cls:=.type "tuple_iterator",data:=.fields #[.ref l,.int 0 0] }).push { cls:=.type "enumerate",data:=.fields #[.none,.bool false,.ref s.heap.objs.size,rawInt 0,.none,.none] } }):=
 .of_wp fun prog w A R s h=>by
  obtain ⟨hp,g,d,tk,os⟩:=s; obtain ⟨hl,h⟩:=h
  have hsub:=sub_enumerate
  have hL:Heap.IsTuple (Shared.heap ⟨hp,g,d,tk,os⟩) l items:=⟨_,hl,rfl,n,rfl⟩
  wp_walk using AutoSeq1.wpAny_loadPart' hl
  refine wpAny_stack_any fun st=>wpAny_pure ?_
  split
  ·rename_i c _ _ _ _ _
   cases (c == Value.type "enumerate")
   ·wp_walk using AutoSeq1.wpAny_loadPart' hl,wpAny_pyIter_tuple hL
    exact ⟨_,rfl,h⟩
   ·wp_walk using AutoSeq1.wpAny_loadPart' hl,wpAny_pyIter_tuple hL
    exact ⟨_,rfl,h⟩
  ·wp_walk using AutoSeq1.wpAny_loadPart' hl,wpAny_pyIter_tuple hL
   exact ⟨_,rfl,h⟩
section
variable {prog:Program} {w:World} {A:Around} {E:Value->Shared->Prop} {s:Shared}
theorem zho {l:Addr} {items:Array Value} {Q:Value->Shared->Prop} (hL:s.heap.IsTuple l items)
  (h:∀ h',IsEnum h' (s.heap.objs.size + 1) s.heap.objs.size 0 .none->h'.IsTupleIter s.heap.objs.size l 0->h'.objs.size=s.heap.objs.size + 2->(∀ b o,s.heap.get? b=some o->h'.get? b=some o)->Q (.ref (s.heap.objs.size + 1)) { s with heap:=h' }):
  wpAny (model prog w) A (call (.type "enumerate") [.ref l]) Q E s:=by
 obtain ⟨⟨c,dct,dt,sl⟩,hl,hc,n,hd⟩:=hL
 simp only at hc hd
 subst hc hd
 refine callType_new PySem.F.called_enumerate (by decide) (PySem.F.typeCall_enumerate_1 _) (PySem.F.newCall_enumerate_1 _) (fun obj=>PySem.F.args_object_init_2 obj _) PySem.F.entry_enumerate_new (newT l items n dct sl) ⟨hl,?_⟩
 have hz:(s.heap.push { cls:=.type "tuple_iterator",data:=.fields #[.ref l,.int 0 0] }).objs.size=s.heap.objs.size + 1:=Heap.size_push ..
 show _ /\ _
 rw [hz]
 have he:IsEnum ((s.heap.push { cls:=.type "tuple_iterator",data:=.fields #[.ref l,.int 0 0] }).push { cls:=.type "enumerate",data:=.fields #[.none,.bool false,.ref s.heap.objs.size,rawInt 0,.none,.none] }) (s.heap.objs.size + 1) s.heap.objs.size 0 .none:=by
  have q:=Heap.get?_push_size (s.heap.push { cls:=.type "tuple_iterator",data:=.fields #[.ref l,.int 0 0] }) (o:={ cls:=.type "enumerate",data:=.fields #[.none,.bool false,.ref s.heap.objs.size,rawInt 0,.none,.none] }) rfl
  rw [hz] at q; exact q
 exact ⟨⟨_,he,rfl⟩,h _ he ⟨_,Heap.get?_push_of_some _ (Heap.get?_push_size _ rfl),rfl,rfl⟩ (by rw [Heap.size_push,hz]) fun b o x=>Heap.get?_push_of_some _ (Heap.get?_push_of_some _ x)⟩
end
end LS
namespace LS
open PySem
noncomputable def Ris (l:List Nat):Prop:=l.Pairwise (· < ·)
theorem zcG {xs:Array Nat} (h:Ris xs.toList) {a b:Nat} (hab:a < b) (hb:b < xs.size) (d e:Nat):xs.getD a d < xs.getD b e:=by
 have ha:a < xs.size:=by omega
 have:=List.pairwise_iff_getElem.mp h a b (by simpa using ha) (by simpa using hb) hab
 simpa [Array.getD,ha,hb] using this
theorem zj3 {xs:Array Nat} (hs:Ris xs.toList) (j:Nat) (fuel:Nat):∀ (lo hi:Nat),hi - lo<=fuel->lo<=hi->hi<=xs.size->(∀ k,k < lo->xs.getD k 0 < j)->(∀ k,hi<=k->k < xs.size->j<=xs.getD k 0)->
  SetTable.below.go xs j fuel lo hi<=xs.size /\ (∀ k,k < SetTable.below.go xs j fuel lo hi->xs.getD k 0 < j) /\ ∀ k,SetTable.below.go xs j fuel lo hi<=k->k < xs.size->j<=xs.getD k 0:=by
 induction fuel with
 | zero=>
   intro lo hi h1 h2 h3 h4 h5
   have e:lo=hi:=Nat.le_antisymm h2 (Nat.le_of_sub_eq_zero (Nat.le_zero.mp h1))
   subst e
   exact ⟨h3,h4,h5⟩
 | succ fuel ih=>
   intro lo hi h1 h2 h3 h4 h5
   rw [SetTable.below.go]
   by_cases hl:lo < hi
   ·rw [if_pos hl]
    have a:lo<=(lo + hi) / 2 /\ (lo + hi) / 2 < hi:=by omega
    dsimp only
    generalize (lo + hi) / 2=m at a
    have hm:m < xs.size:=Nat.lt_of_lt_of_le a.2 h3
    have hg:xs.getD m j=xs.getD m 0:=by simp [Array.getD,hm]
    rw [hg]
    by_cases hc:xs.getD m 0 < j
    ·rw [if_pos hc]
     refine ih _ hi (by omega) a.2 h3 (fun k hk=>?_) h5
     rcases Nat.lt_or_eq_of_le (Nat.le_of_lt_succ hk) with q | q
     ·exact Nat.lt_trans (zcG hs q hm 0 0) hc
     ·rw [q]; exact hc
    ·rw [if_neg hc]
     have hc:=Nat.le_of_not_lt hc
     refine ih lo _ (by omega) a.1 (Nat.le_of_lt hm) h4 (fun k hk hk'=>?_)
     rcases Nat.lt_or_eq_of_le hk with q | q
     ·exact Nat.le_trans hc (Nat.le_of_lt (zcG hs q hk' 0 0))
     ·rw [<- q]; exact hc
   ·rw [if_neg hl]
    have e:lo=hi:=Nat.le_antisymm h2 (Nat.le_of_not_lt hl)
    subst e
    exact ⟨h3,h4,h5⟩
theorem zg4 {xs:Array Nat} (hs:Ris xs.toList) (j:Nat):SetTable.below xs j<=xs.size /\ (∀ k,k < SetTable.below xs j->xs.getD k 0 < j) /\ ∀ k,SetTable.below xs j<=k->k < xs.size->j<=xs.getD k 0:=
 zj3 hs j xs.size 0 xs.size (by omega) (Nat.zero_le _) (Nat.le_refl _) (fun k hk=>by omega) fun k h1 h2=>by omega
theorem zeM {xs:Array Nat} (hs:Ris xs.toList) {i j:Nat} (hi:i<=xs.size) (h1:∀ k,k < i->xs.getD k 0 < j) (h2:∀ k,i<=k->k < xs.size->j<=xs.getD k 0):SetTable.below xs j=i:=by
 obtain ⟨a,b,c⟩:=zg4 hs j
 rcases Nat.lt_trichotomy (SetTable.below xs j) i with h | h | h
 ·have:=h1 _ h
  have:=c _ (Nat.le_refl _) (by omega)
  omega
 ·exact h
 ·have:=b i h
  have:=h2 i (Nat.le_refl _) (by omega)
  omega
theorem zjZ {xs:Array Nat} (hs:Ris xs.toList) {j:Nat} (h:xs[SetTable.below xs j]?≠some j):j∉xs.toList:=by
 intro hm
 obtain ⟨k,hk,e⟩:=List.getElem_of_mem hm
 have hk':k < xs.size:=by simpa using hk
 have ek:xs.getD k 0=j:=by simpa [Array.getD,hk'] using e
 have:SetTable.below xs j=k:=zeM hs (Nat.le_of_lt hk') (fun i hi=>by rw [<- ek]; exact zcG hs hi hk' 0 0) (fun i h1 h2=>by
  by_cases hik:k=i
  ·subst hik; omega
  ·have:=zcG hs (show k < i by omega) h2 0 0
   omega)
 rw [this] at h
 refine h ?_
 rw [Array.getElem?_eq_getElem hk']
 simpa using e
theorem zlR {t:SetTable} (hs:Ris t.place.toList) {j:Nat} (h:t.place[SetTable.below t.place j]?≠some j):Ris (t.put j).1.place.toList:=by
 have hn:=zjZ hs h
 obtain ⟨a,b,c⟩:=zg4 hs j
 show Ris (SetTable.insertAt t.place (SetTable.below t.place j) j).toList
 rw [SetTable.toList_insertAt]
 have hs':(t.place.toList.take (SetTable.below t.place j) ++ t.place.toList.drop (SetTable.below t.place j)).Pairwise (· < ·):=by rw [List.take_append_drop]; exact hs
 rw [List.pairwise_append] at hs'
 refine List.pairwise_append.mpr ⟨hs'.1,List.pairwise_cons.mpr ⟨fun x hx=>?_,hs'.2.1⟩,fun x hx y hy=>?_⟩
 ·obtain ⟨k,hk,e⟩:=List.getElem_of_mem hx
  rw [List.getElem_drop] at e
  have hk2:SetTable.below t.place j + k < t.place.size:=by
   have:=List.length_drop (i:=SetTable.below t.place j) (l:=t.place.toList)
   have hk3:=hk
   rw [this] at hk3
   simp at hk3
   omega
  have:=c (SetTable.below t.place j + k) (by omega) hk2
  have e2:t.place.getD (SetTable.below t.place j + k) 0=x:=by simpa [Array.getD,hk2] using e
  have hne:x≠j:=fun z=>hn (by rw [<- z]; exact List.mem_of_mem_drop hx)
  omega
 ·obtain ⟨k,hk,e⟩:=List.getElem_of_mem hx
  have hk2:k < SetTable.below t.place j:=by
   have:=List.length_take (i:=SetTable.below t.place j) (l:=t.place.toList)
   omega
  have hk3:k < t.place.size:=by omega
  rw [List.getElem_take] at e
  have e2:t.place.getD k 0=x:=by simpa [Array.getD,hk3] using e
  have hxj:=b k hk2
  rw [e2] at hxj
  rcases List.mem_cons.mp hy with z | z
  ·rw [z]; exact hxj
  ·exact hs'.2.2 x hx y z
set_option tactic.hygienic true in
theorem zcC {t:SetTable} {f:Nat->Int} {h:Int}:∀ {fuel:Nat} {p:SetTable.Probe} {j:Nat} {dm:Option Nat},(∀ d,p.dummy=some d->t.place[SetTable.below t.place d]?≠some d)->
  SetTable.probe.go t f h fuel p=some (.empty j dm)->t.place[SetTable.below t.place (dm.getD j)]?≠some (dm.getD j)
 | 0,p,j,dm,_,e=>by cases e
 | fuel + 1,p,j,dm,hd,e=>by
   have hdm:∀ q:SetTable.Probe,(t.advance q).dummy=q.dummy:=fun q=>by unfold SetTable.advance; split <;> rfl
   rw [SetTable.probe.go] at e
   have nl:∀ i,t.slot i=.empty \/ t.slot i=.dummy->t.place[SetTable.below t.place i]?≠some i:=by
    intro i hi z
    unfold SetTable.slot at hi
    dsimp only at hi
    rw [z] at hi
    simp at hi
   split at e
   ·rename_i hs
    cases e
    cases hp:p.dummy with
    | none=>exact nl _ (.inl hs)
    | some d=>exact hd d hp
   ·rename_i hs
    refine zcC (fun d hd'=>?_) e
    rw [hdm] at hd'
    cases hd'
    exact nl _ (.inr hs)
   ·split at e
    ·cases e
    ·exact zcC (fun d hd'=>hd d (by rw [hdm] at hd'; exact hd')) e
theorem zcb (n:Nat):Ris (Array.range n).toList:=by rw [Array.toList_range]; exact List.pairwise_lt_range
theorem zec {t:SetTable} {n:Nat} (h:Ris t.place.toList):Ris (t.orStandIn n).place.toList /\ (t.orStandIn n).led=t.led:=by
 unfold SetTable.orStandIn
 split
 ·exact ⟨h,rfl⟩
 ·exact ⟨zcb n,rfl⟩
set_option tactic.hygienic true in
theorem zhx {t:SetTable} {es:Array (Int×Value)} {h:Int} {x:Value} (hs:Ris t.place.toList):Ris (layNew t es h x).2.1.place.toList /\ (layNew t es h x).2.1.led=t.led:=by
 unfold layNew
 split
 ·rename_i slot wd e
  unfold SetTable.freeSlot at e
  split at e
  ·rename_i j dm ep
   cases e
   have:=zcC (t:=t) (fun d z=>by cases z) ep
   obtain ⟨a,b⟩:=zec (n:=(SetTable.insertAt es (t.put (dm.getD j)).2 (h,x)).size) (zlR hs this)
   exact ⟨a,b⟩
  ·cases e
 ·exact ⟨zcb _,rfl⟩
set_option tactic.hygienic true in
theorem ze9 {t:SetTable} {es:Array (Int×Value)} {n:Nat}:Ris (relayAll t es n).2.1.place.toList /\ (relayAll t es n).2.1.led=t.led:=by
 unfold relayAll
 split
 ·rename_i t' order e
  dsimp only
  split
  ·unfold SetTable.relaid SetTable.laid at e
   obtain ⟨owner,_,e2⟩:=Option.bind_eq_some_iff.mp e
   cases e2
   refine ⟨?_,rfl⟩
   show Ris (List.map _ _)
   refine List.pairwise_map.mpr (List.pairwise_filterMap.mpr ?_)
   refine List.pairwise_lt_range.imp fun {a b} hab x hx y hy=>?_
   cases ea:owner.getD a none with
   | none=>rw [ea] at hx; cases hx
   | some u=>
     cases eb:owner.getD b none with
     | none=>rw [eb] at hy; cases hy
     | some v=>
       rw [ea] at hx; rw [eb] at hy
       cases hx; cases hy
       exact hab
  ·exact ⟨zcb _,rfl⟩
 ·exact ⟨zcb _,rfl⟩
end LS
namespace LS
open PySem PyProof.Rows
noncomputable def iv:Value->Int
 | .int n _=>n
 | _=>0
theorem zao:∀ {vs:List Value} {ns:List Int},IntsAre vs ns↔(∀ v∈vs,∃ n t,v=.int n t) /\ ns=vs.map iv
 | [],ns=>⟨fun h=>by cases h; exact ⟨fun v hv=>by simp at hv,rfl⟩,fun ⟨_,h⟩=>by subst h; exact .nil⟩
 | v :: vs,ns=>⟨fun h=>by
     cases h with
     | cons n t h=>
       obtain ⟨h1,h2⟩:=zao.mp h
       refine ⟨fun u hu=>?_,by rw [h2]; rfl⟩
       rcases List.mem_cons.mp hu with z | z
       ·exact ⟨n,t,z⟩
       ·exact h1 u z,fun ⟨h1,h2⟩=>by
     obtain ⟨n,t,rfl⟩:=h1 v List.mem_cons_self
     subst h2
     exact .cons n t (zao.mpr ⟨fun u hu=>h1 u (List.mem_cons_of_mem _ hu),rfl⟩)⟩
theorem zds {vs vs':List Value} {ns:List Int} (h:IntsAre vs ns) (p:vs'.Perm vs):∃ ns',IntsAre vs' ns' /\ ns'.Perm ns:=by
 obtain ⟨h1,h2⟩:=zao.mp h
 exact ⟨vs'.map iv,zao.mpr ⟨fun v hv=>h1 v (p.mem_iff.mp hv),rfl⟩,by rw [h2]; exact p.map iv⟩
noncomputable def ISet (prog:Program) (w:World) (h:Heap) (a:Addr) (led:Bool) (ns:List Int):Prop:=∃ o es ep t,h.get? a=some o /\ o.ExactSet /\ o.data=.set es ep t /\ ElemsOf (intKind prog w) es.toList /\
 IntsAre (es.toList.map (·.2)) ns /\ ns.Nodup /\ es.size < scanBound /\ t.fits es.size=true /\ t.led=led /\ Ris t.place.toList
section
variable {prog:Program} {w:World} {A:Around} {E:Value->Shared->Prop} {s:Shared} {a:Addr} {led:Bool} {ns:List Int}
theorem ISet.keeps {h h':Heap} (x:ISet prog w h a led ns) (k:∀ o,h.get? a=some o->h'.get? a=some o):ISet prog w h' a led ns:=by
 obtain ⟨o,es,ep,t,ho,r⟩:=x
 exact ⟨o,es,ep,t,k o ho,r⟩
theorem zgH {h:Heap} {o:Obj} {es:Array (Int×Value)} {ep:Nat} {t:SetTable} (ho:h.get? a=some o) (hex:o.ExactSet) (hd:o.data=.set es ep t) {es':Array (Int×Value)} {t':SetTable} {ns':List Int}
  (h1:ElemsOf (intKind prog w) es'.toList) (h2:IntsAre (es'.toList.map (·.2)) ns') (h3:ns'.Nodup) (h4:es'.size < scanBound) (h5:t'.fits es'.size=true) (h6:t'.led=led) (h7:Ris t'.place.toList):
  (h.update a (Obj.putSet es' t')).get? a=some { o with data:=.set es' (ep + 1) t' } /\ ISet prog w (h.update a (Obj.putSet es' t')) a led ns':=by
 have hg:(h.update a (Obj.putSet es' t')).get? a=some { o with data:=.set es' (ep + 1) t' }:=by
  have q:=Heap.get?_update_self (Obj.putSet es' t') ho (by rw [putSet_of es' t' hd]; rfl)
  rwa [putSet_of es' t' hd] at q
 exact ⟨hg,_,es',ep + 1,t',hg,hex,rfl,h1,h2,h3,h4,h5,h6,h7⟩
theorem zff {g:Bool->Sem Unit} (hg:∀ (b:Bool) (s₁:Shared) (Q':Unit->Shared->Prop),Q' () s₁->wpAny (model prog w) A (g b) Q' E s₁) {o:Obj} {es:Array (Int×Value)} {ep:Nat} {t:SetTable}
  (ho:s.heap.get? a=some o) (hex:o.ExactSet) (hd:o.data=.set es ep t) {es1:Array (Int×Value)} {t2:SetTable} {ns1:List Int} (h1:ElemsOf (intKind prog w) es1.toList) (h2:IntsAre (es1.toList.map (·.2)) ns1) (h3:ns1.Nodup) (h4:es1.size < scanBound)
  (h5:t2.fits es1.size=true) (h6:t2.led=led) (h7:Ris t2.place.toList) {wd:Bool} {R:Option Bool->Shared->Prop}
  (h:∀ h' ns',Heap.SameBut a s.heap h'->ISet prog w h' a led ns'->ns'.Perm ns1->R (some true) { s with heap:=h' }):
  wpAny (model prog w) A (do
    storeSet a es1 t2
    if (!wd && t2.tooFull)=true then do
        g (relayAll t2 es1 (SetTable.grown es1.size)).2.2
        storeSet a (relayAll t2 es1 (SetTable.grown es1.size)).1 (relayAll t2 es1 (SetTable.grown es1.size)).2.1
        pure (some true)
     else pure (some true)) R E s:=by
 refine wpAny_bind (wpAny_storeSet_of ho hd ?_ (fits_of_scanBound h4))
 obtain ⟨ho1,S1⟩:=zgH (led:=led) ho hex hd h1 h2 h3 h4 h5 h6 h7
 have b1:=Heap.SameBut.update s.heap a (Obj.putSet es1 t2)
 split
 ·have hp:=relayAll_perm t2 es1 (SetTable.grown es1.size)
  have hf:=relayAll_fits t2 es1 (SetTable.grown es1.size)
  obtain ⟨hr,hl⟩:=ze9 (t:=t2) (es:=es1) (n:=SetTable.grown es1.size)
  generalize relayAll t2 es1 (SetTable.grown es1.size)=Z at hp hf hr hl ⊢
  obtain ⟨es2,t3,gave⟩:=Z
  dsimp only at hp hf hr hl ⊢
  obtain ⟨ns2,i2,p2⟩:=zds h2 (hp.map (·.2))
  have hz:es2.size=es1.size:=by rw [<- Array.length_toList,hp.length_eq,Array.length_toList]
  have b2:es2.size < scanBound:=by rw [hz]; exact h4
  refine wpAny_bind (hg _ _ _ (wpAny_bind (wpAny_storeSet_of ho1 rfl ?_ (fits_of_scanBound b2))))
  obtain ⟨_,S2⟩:=zgH (led:=led) ho1 hex rfl (h1.perm hp) i2 (p2.nodup_iff.mpr h3) b2 hf (hl.trans h6) hr
  exact wpAny_pure (h _ ns2 (b1.trans (Heap.SameBut.update _ a _)) S2 p2)
 ·exact wpAny_pure (h _ ns1 b1 S1 (.refl _))
theorem zgQ {es:List (Int×Value)} {i:Int} (h:IntsAre (es.map (·.2)) ns):i∈ns↔∃ e∈es,Value.isInt i e.2=true:=by
 obtain ⟨h1,h2⟩:=zao.mp h
 subst h2
 constructor
 ·intro hm
  obtain ⟨v,hv,e⟩:=List.mem_map.mp hm
  obtain ⟨x,hx,rfl⟩:=List.mem_map.mp hv
  obtain ⟨n,t,q⟩:=h1 _ hv
  rw [q] at e
  cases e
  exact ⟨x,hx,by rw [q]; simp [Value.isInt,iv]⟩
 ·rintro ⟨e,he,q⟩
  obtain ⟨t,z⟩:=Value.isInt_shape q
  exact List.mem_map.mpr ⟨e.2,List.mem_map.mpr ⟨e,he,rfl⟩,by rw [z]; rfl⟩
theorem zjL {i:Int} {tk:Tok} {Q:Bool->Shared->Prop} (hS:ISet prog w s.heap a led ns) (room:ns.length + 1 < scanBound)
  (h:∀ h' ns' b,Heap.SameBut a s.heap h'->ISet prog w h' a led ns'->(∀ k,k∈ns'↔k∈ns \/ k=i)->ns'.length<=ns.length + 1->Q b { s with heap:=h' }):
  wpAny (model prog w) A (setAddHashed a (.int i tk) (hashInt i)) Q E s:=by
 obtain ⟨o,es,ep,t,ho,hex,hd,h1,h2,h3,h4,h5,h6,h7⟩:=hS
 have hlen:ns.length=es.size:=by
  obtain ⟨_,e⟩:=zao.mp h2
  rw [e]; simp
 have hk:(intKind prog w).is i (.int i tk)=true:=intKind_is prog w i tk
 have hsc:(Value.int i tk).scannable=true:=rfl
 unfold setAddHashed setAddHashedIn
 refine wpAny_holding (wpAny_bind (wpAny_setState_of ho hd h5 ?_))
 dsimp only
 rw [byScan_of hsc h4 h1]
 simp only [↓reduceIte]
 unfold setAddByScan
 refine wpAny_bind (wpAny_bind (wpAny_rule (wpAny_bind (wpAny_setScan_of (knd:=intKind prog w) (k:=i) hk ho hd h5 h1 ?_))))
 cases hf:List.findIdx? (fun e=>(intKind prog w).is i e.2) es.toList with
 | some j=>
   dsimp only
   obtain ⟨hj,hpj,_⟩:=List.findIdx?_eq_some_iff_getElem.mp hf
   have hm:i∈ns:=(zgQ h2).mpr ⟨_,List.getElem_mem hj,hpj⟩
   refine wpAny_pure (wpAny_pure ?_)
   have q:=h s.heap ns false (Heap.SameBut.refl a s.heap) ⟨o,es,ep,t,ho,hex,hd,h1,h2,h3,h4,h5,h6,h7⟩ (fun k=>⟨.inl,fun z=>z.elim id fun e=>e ▸ hm⟩) (Nat.le_succ _)
   exact q
 | none=>
   dsimp only
   have hn:i∉ns:=fun hm=>by
    obtain ⟨e,he,q⟩:=(zgQ h2).mp hm
    have z:=List.findIdx?_eq_none_iff.mp hf e he
    rw [show (intKind prog w).is i e.2=true from q] at z
    cases z
   have gw:∀ (b:Bool) {s₁:Shared} {Q':Unit->Shared->Prop},Q' () s₁->wpAny (model prog w) A (match b with | true=>rule "set.scan.the-table-gave-way" | false=>pure ()) Q' E s₁:=
    fun b s₁ Q' hq=>by cases b <;> first | exact wpAny_pure hq | exact wpAny_rule hq
   have hp:=layNew_perm t es (hashInt i) (.int i tk)
   have hft:=layNew_fits t es (hashInt i) (.int i tk)
   obtain ⟨hr,hl⟩:=zhx (t:=t) (es:=es) (h:=hashInt i) (x:=.int i tk) h7
   generalize layNew t es (hashInt i) (.int i tk)=Z at hp hft hr hl ⊢
   obtain ⟨es1,t1,wd,gave⟩:=Z
   dsimp only at hp hft hr hl ⊢
   rw [Array.toList_push] at hp
   have e1:ElemsOf (intKind prog w) es1.toList:=(h1.push hk hsc).perm hp
   have i0:IntsAre ((es.toList ++ [(hashInt i,Value.int i tk)]).map (·.2)) (ns ++ [i]):=by
    obtain ⟨x1,x2⟩:=zao.mp h2
    refine zao.mpr ⟨fun v hv=>?_,by rw [x2]; simp [iv]⟩
    rw [List.map_append] at hv
    rcases List.mem_append.mp hv with z | z
    ·exact x1 v z
    ·simp at z; exact ⟨i,tk,z⟩
   obtain ⟨ns1,i1,p1⟩:=zds i0 (hp.map (·.2))
   have nd:ns1.Nodup:=p1.nodup_iff.mpr (by
    rw [List.nodup_append]
    exact ⟨h3,by simp,fun x hx y hy=>by simp at hy; rw [hy]; exact fun z=>hn (z ▸ hx)⟩)
   have hz:es1.size=es.size + 1:=by rw [<- Array.length_toList,hp.length_eq,List.length_append,Array.length_toList]; rfl
   have b1:es1.size < scanBound:=by omega
   have fin:∀ h' ns',Heap.SameBut a s.heap h'->ISet prog w h' a led ns'->ns'.Perm ns1->Q true { s with heap:=h' }:=fun h' ns' sb S p=>by
    refine h h' ns' true sb S (fun k=>?_) ?_
    ·rw [p.mem_iff,p1.mem_iff]; simp
    ·rw [p.length_eq,p1.length_eq]; simp
   refine wpAny_bind (gw _ ?_)
   split
   ·rw [hashByValue_scannable 8 hsc]
    refine wpAny_bind (wpAny_pure ?_)
    refine zff (led:=led) ?_ ho hex hd e1 i1 nd b1 ?_ ?_ ?_ fun h' ns' sb S p=>?_
    ·intro b s₁ Q' hq; cases b <;> first | exact wpAny_pure hq | exact wpAny_rule hq
    ·split
     ·exact hft
     ·exact SetTable.fits_plain_off hft
    ·split <;> exact hl.trans h6
    ·split <;> exact hr
    ·dsimp only; exact wpAny_pure (fin h' ns' sb S p)
   ·refine wpAny_bind (wpAny_pure ?_)
    simp only [↓reduceIte]
    refine zff (led:=led) ?_ ho hex hd e1 i1 nd b1 hft (hl.trans h6) hr fun h' ns' sb S p=>?_
    ·intro b s₁ Q' hq; cases b <;> first | exact wpAny_pure hq | exact wpAny_rule hq
    ·dsimp only; exact wpAny_pure (fin h' ns' sb S p)
end
end LS
namespace LS
open PySem PySem.Spec PyProof.Rows
section
variable {prog:Program} {w:World} {A:Around} {E:Value->Shared->Prop} {s:Shared}
noncomputable abbrev ledOf (w:World):Bool:= !w.params.followText "set-order"
noncomputable abbrev bareSet (w:World):Obj:={ cls:=.type "set",dict:=none,data:=.set #[] 0 (.fresh 0 0 (ledOf w)) }
theorem ziy {h:Heap} {a:Addr} (e:h.get? a=some (bareSet w)):ISet prog w h a (ledOf w) []:=
 ⟨_,#[],0,_,e,⟨rfl,rfl,rfl⟩,rfl,fun x hx=>by simp at hx,.nil,.nil,by decide,rfl,rfl,List.Pairwise.nil⟩
theorem zma (a:Value) {Q₁:Value->Shared->Prop} (h:Q₁ (.ref s.heap.objs.size) { s with heap:=s.heap.push (bareSet w) }):
  codeAny (model prog w) A (.call (.builtin "set.__new__") ⟨[.type "set",a],[]⟩) (wants Q₁ E) s:=by
 refine codeAny_of_tree ?_
 show wpAny _ A.in1 (checkBuiltinCall "set.__new__" ⟨[.type "set",a],[]⟩ >>= fun _=>again (.builtin "set.__new__" ⟨[.type "set",a],[]⟩)) _ _ s
 refine wpAny_bind (wpAny_of_eq (PySem.F.newCall_set_1 a) (wpAny_pure ⟨plainId_quiet PySem.F.plain_set_new _,codeAny_builtin PySem.F.entry_set_new ?_⟩))
 rw [Around.under_plainId PySem.F.plain_set_new _]
 unfold Builtin.«set.__new__» Builtin.Frozenset.newClass
 have hsub:=sub_set_self
 obtain ⟨hp,g,d,tk,os⟩:=s
 dsimp only
 wp_walk
 refine wpAny_askSetting (wpAny_pure ?_)
 dsimp only
 simp only [newObj]
 exact wpAny_bind (wpAny_alloc (wpAny_pure (wpAny_pure h)))
end
section
variable {prog:Program} {w:World} {A:Around} {R:Result->Shared->Prop} {I:Addr} {fp wr:List Addr} {G:Array GenState->Array GenState->Prop} {n:Nat} {P:Nat->Value->Prop} {St:Nat->Shared->Prop} {led:Bool}
theorem zkK (W:WalksS prog w A.in1 I fp wr G n P St) (S:Addr) (hSf:S∉fp) (val:Nat->Int) (hval:∀ i v,P i v->∃ t,v=.int (val i) t) (hb:n + 1 < scanBound):
  ∀ (k i:Nat) (s:Shared) (ns:List Int),n - i=k->i<=n->St i s->ISet prog w s.heap S led ns->ns.length<=i->(∀ x,x∈ns↔∃ j,j < i /\ val j=x)->
    (∀ s' ns',Moved (S :: wr) G s s'->ISet prog w s'.heap S led ns'->ns'.length<=n->(∀ x,x∈ns'↔∃ j,j < n /\ val j=x)->R (.ok (.ret .none)) s')->
    codeAny (model prog w) A (.builtin "set.update.loop" ⟨[.ref S,.ref I],[]⟩) R s:=by
 have hSw:S∉wr:=fun h=>hSf (W.sub _ h)
 have hsub:∀ b∈wr,b∈S :: wr:=fun b hb=>List.mem_cons_of_mem _ hb
 intro k
 induction k with
 | zero=>
   intro i s ns hk hi st hS hl hm hR
   have hin:i=n:=by omega
   subst hin
   refine codeAny_builtin PyProof.Rows.F.entry_set_update_loop ?_
   rw [Around.under_plainId PyProof.Rows.F.plain_set_update_loop _]
   show wpAny _ A.in1 (pyNext (.ref I) >>= _) _ _ s
   refine wpAny_bind (W.done s _ _ st fun s' mv=>?_)
   show wpAny _ A.in1 (ret Value.none) _ _ s'
   exact wpAny_pure (hR s' ns (mv.mono hsub) (hS.keeps fun o e=>mv.heap S o hSw e) hl hm)
 | succ k ih=>
   intro i s ns hk hi st hS hl hm hR
   have hlt:i < n:=by omega
   refine codeAny_builtin PyProof.Rows.F.entry_set_update_loop ?_
   rw [Around.under_plainId PyProof.Rows.F.plain_set_update_loop _]
   show wpAny _ A.in1 (pyNext (.ref I) >>= _) _ _ s
   refine wpAny_bind (W.item i s _ _ hlt st fun v s' hP st' mv=>?_)
   obtain ⟨t,rfl⟩:=hval i v hP
   have hS':ISet prog w s'.heap S led ns:=hS.keeps fun o e=>mv.heap S o hSw e
   show wpAny _ A.in1 (holding [Value.int (val i) t] (setAdd S (.int (val i) t)) >>= _) _ _ s'
   refine wpAny_bind (wpAny_holding ?_)
   unfold setAdd
   refine wpAny_holding (wpAny_bind ((intKind prog w).pyHash (k:=val i) (intKind_is _ _ _ _) ?_))
   refine zjL (s:={ s' with toks:=s'.toks + 1 }) hS' (by omega) fun h' ns' b sb S2 hm2 hl2=>?_
   refine wpAny_pure ⟨plainId_quiet PyProof.Rows.F.plain_set_update_loop _,ih (i + 1) _ ns' (by omega) hlt (W.frame _ s' _ _ st' (Nat.le_succ _) fun b hb o e=>?_) S2 (by omega) (fun x=>?_) fun s'' ns'' mv'' S3 l3 m3=>?_⟩
   ·rw [sb.2 b (fun z:b=S=>hSf (by rw [<- z]; exact hb))]; exact e
   ·rw [hm2,hm]
    constructor
    ·rintro (⟨j,hj,e⟩ | e)
     ·exact ⟨j,by omega,e⟩
     ·exact ⟨i,by omega,e.symm⟩
    ·rintro ⟨j,hj,e⟩
     by_cases hji:j=i
     ·subst hji; exact .inr e.symm
     ·exact .inl ⟨j,by omega,e⟩
   ·refine hR s'' ns'' (Moved.trans W.gtrans ((mv.mono hsub).then_heap (Nat.le_succ _) fun b o hb e=>?_) mv'') S3 l3 m3
    rw [sb.2 b (fun z:b=S=>hb (by rw [z]; exact List.mem_cons_self))]; exact e
end
section
variable {prog:Program} {w:World} {A:Around} {E:Value->Shared->Prop} {s:Shared}
structure RowSrc (prog:Program) (w:World) (h:Heap) (r:Addr) (items:Array Value) (T:String) (oI:Obj) (St:Addr->Nat->Heap->Prop):Prop where
 ty:∃ o,h.get? r=some o /\ o.cls=.type T
 sub1:isSubtype (.type T) (.type "set")=pure false
 sub2:isSubtype (.type T) (.type "frozenset")=pure false
 nd:(Value.type T == Value.type "dict")=false
 iter:∀ (A':Around) (s':Shared) (Q:Value->Shared->Prop) (E:Value->Shared->Prop),(∀ o,h.get? r=some o->s'.heap.get? r=some o)->Q (.ref s'.heap.objs.size) { s' with heap:=s'.heap.push oI }->wpAny (model prog w) A' (pyIter (.ref r)) Q E s'
 walk:∀ (A':Around) (I:Addr),A'.handled=none->r≠I->Walks prog w A' I [I,r] [I] items.size (fun i v=>items[i]?=some v) (St I)
 st:∀ h':Heap,(∀ o,h.get? r=some o->h'.get? r=some o)->St h'.objs.size 0 (h'.push oI)
theorem zjQ {h:Heap} {l:Addr} {items:Array Value} (hl:h.IsList l items):RowSrc prog w h l items "list" { cls:=.type "list_iterator",data:=.fields #[.ref l,.int 0 0] } (fun I i h=>h.IsListIter I l i /\ h.IsList l items) where
 ty:=let ⟨o,e,c,_⟩:=hl; ⟨o,e,c⟩
 sub1:=PySem.F.sub_list_set
 sub2:=PySem.F.sub_list_frozenset
 nd:=by decide
 iter:=fun A' s' Q E k q=>wpAny_pyIter_list (hl.at k) q
 walk:=fun A' I hh hne=>Walks.list hh I l hne items
 st:=fun h' k=>⟨⟨_,Heap.get?_push_size _ rfl,rfl,rfl⟩,(hl.at k).push _⟩
theorem zji {h:Heap} {l:Addr} {items:Array Value} (hl:h.IsTuple l items):RowSrc prog w h l items "tuple" { cls:=.type "tuple_iterator",data:=.fields #[.ref l,.int 0 0] } (fun I i h=>h.IsTupleIter I l i /\ h.IsTuple l items) where
 ty:=let ⟨o,e,c,_⟩:=hl; ⟨o,e,c⟩
 sub1:=by rw [isSubtype_type]; kernel_rfl
 sub2:=by rw [isSubtype_type]; kernel_rfl
 nd:=by decide
 iter:=fun A' s' Q E k q=>wpAny_pyIter_tuple (hl.at k) q
 walk:=fun A' I hh hne=>Walks.tuple hh I l hne items
 st:=fun h' k=>⟨⟨_,Heap.get?_push_size _ rfl,rfl,rfl⟩,(hl.at k).push _⟩
set_option maxHeartbeats 3200000 in
theorem zgG {r:Addr} {items:Array Value} {ms:List Int} {T:String} {oI:Obj} {St:Addr->Nat->Heap->Prop} {Q:Value->Shared->Prop} (hh:A.handled=none) (src:RowSrc prog w s.heap r items T oI St) (hi:IntsAre items.toList ms) (hb:items.size + 1 < scanBound)
  (h:∀ (h':Heap) (tk:Nat) (ns:List Int),ISet prog w h' s.heap.objs.size (ledOf w) ns->(∀ x,x∈ns↔x∈ms)->ns.length<=ms.length->(∀ b o,s.heap.get? b=some o->h'.get? b=some o)->Q (.ref s.heap.objs.size) { s with heap:=h',toks:=tk }):
  wpAny (model prog w) A (call (.type "set") [.ref r]) Q E s:=by
 obtain ⟨c,tl,hmro⟩:=PySem.F.called_set.mro
 have hmade:=PySem.F.called_set.made
 have hsub:=PySem.F.called_set.sub
 refine wpAny_call (codeAny_of_tree ?_)
 show wpAny _ _ (callAny (.type "set") _) _ _ _
 refine wpAny_pure ⟨Code.quiet_builtin _ (by decide +kernel),codeAny_builtin PySem.F.entry_type_call ?_⟩
 rw [Around.under_plain (weight_type_call_type "set" [.ref r] []) rfl]
 have h1:=PySem.F.called_set.notType
 have h2:=PySem.F.called_set.canCreate
 have hct:=PySem.F.typeCall_set_1 (.ref r)
 repeat (any_goals (first | assumption | wp_step))
 refine codeAny_mono (zma (.ref r) (E:=E) (Q₁:=fun obj s₁=>obj=.ref s.heap.objs.size /\ s₁={ s with heap:=s.heap.push (bareSet w) }) ⟨rfl,rfl⟩) fun q s₁ hq=>?_
 cases q with
 | error e=>exact hq
 | ok fl=>
   cases fl with
   | ret obj=>
     obtain ⟨rfl,rfl⟩:=hq
     have hS:(s.heap.push (bareSet w)).get? s.heap.objs.size=some (bareSet w):=Heap.get?_push_size _ rfl
     have hT:Shared.TypeIs { s with heap:=s.heap.push (bareSet w) } (.ref s.heap.objs.size) "set":=⟨_,hS,rfl⟩
     have hli:=PySem.F.called_set.init.lookup
     have hbi:=PySem.F.called_set.init.bind (.ref s.heap.objs.size)
     repeat (any_goals (first | assumption | wp_step))
     refine codeAny_mono (codeAny_call_builtin (R:=wants (fun v s₂=>v=.none /\ ∃ h' tk ns,s₂={ s with heap:=h',toks:=tk } /\ ISet prog w h' s.heap.objs.size (ledOf w) ns /\ (∀ x,x∈ns↔x∈ms) /\ ns.length<=ms.length /\ ∀ b o,s.heap.get? b=some o->h'.get? b=some o) E)
      PySem.F.called_set.init.plain PySem.F.entry_set_init (check_set_init_1 hT ?_)) fun r₂ s₂ hr₂=>?_
     ·obtain ⟨orow,horow,hcl⟩:=src.ty
      obtain ⟨ocls,odict,odata,oslots⟩:=orow
      simp only at hcl
      subst hcl
      have hol':(s.heap.push (bareSet w)).get? r=some { cls:=.type T,dict:=odict,data:=odata,slots:=oslots }:=Heap.get?_push_of_some _ horow
      have hs1:=src.sub1
      have hs2:=src.sub2
      have hne:=src.nd
      unfold Builtin.«set.__init__» noKeywords Builtin.Frozenset.updateFrom
      generalize hPI:pyIter=PI
      wp_walk
      subst hPI
      refine src.iter _ _ _ _ (fun o e=>Heap.get?_push_of_some _ e) ?_
      refine wpAny_bind (wpAny_runValue ?_)
      have hrS:r < s.heap.objs.size:=Heap.lt_size horow
      have hh3:A.in1.in1.in1.handled=none:=by simp [hh]
      have hz:(s.heap.push (bareSet w)).objs.size=s.heap.objs.size + 1:=Heap.size_push _ _
      have hneI:r≠(s.heap.push (bareSet w)).objs.size:=by rw [hz]; exact Nat.ne_of_lt (Nat.lt_succ_of_lt hrS)
      have hSf:s.heap.objs.size∉[(s.heap.push (bareSet w)).objs.size,r]:=by
       rw [hz]; simp only [List.mem_cons,List.not_mem_nil,or_false,not_or]
       exact ⟨Nat.ne_of_lt (Nat.lt_succ_self _),Nat.ne_of_gt hrS⟩
      have hval:∀ (i:Nat) (v:Value),items[i]?=some v->∃ t,v=.int ((fun i=>ms.getD i 0) i) t:=fun i v hv=>IntsAre.int_at hi i v (by rw [Array.getElem?_toList]; exact hv)
      have hlen:ms.length=items.size:=by have:=(zao.mp hi).2; rw [this]; simp
      refine zkK ((src.walk _ _ hh3 hneI).toS) s.heap.objs.size hSf (fun i=>ms.getD i 0) hval hb (items.size - 0) 0 _ [] (by omega) (Nat.zero_le _) (src.st _ fun o e=>Heap.get?_push_of_some _ e) (ziy (Heap.get?_push_of_some _ hS)) (Nat.le_refl _) (fun x=>by simp) ?_
      intro s' ns' mv S' l' m'
      obtain ⟨h',g',d',tk',os'⟩:=s'
      have eg:g'=s.gens:=mv.gens
      have ed:d'=s.drawn:=mv.drawn
      have eo:os'=s.os:=mv.os
      subst eg ed eo
      show wpAny _ _ _ _ _ _
      refine wpAny_pure ?_
      show wpAny _ _ (ret Value.none) _ _ _
      refine wpAny_pure ⟨rfl,h',tk',ns',rfl,S',fun x=>?_,by omega,fun b o e=>?_⟩
      ·rw [m',<- hlen]
       constructor
       ·rintro ⟨j,hj,e⟩
        rw [List.getD_eq_getElem?_getD,List.getElem?_eq_getElem hj] at e
        rw [<- e]; exact List.getElem_mem hj
       ·intro hx
        obtain ⟨j,hj,e⟩:=List.getElem_of_mem hx
        exact ⟨j,hj,by rw [List.getD_eq_getElem?_getD,List.getElem?_eq_getElem hj]; exact e⟩
      ·have hb0:=Heap.lt_size e
       refine mv.heap b o ?_ (Heap.get?_push_of_some _ (Heap.get?_push_of_some _ e))
       rw [hz]
       simp only [List.mem_cons,List.not_mem_nil,or_false,not_or]
       exact ⟨Nat.ne_of_lt hb0,Nat.ne_of_lt (Nat.lt_succ_of_lt hb0)⟩
     ·cases r₂ with
      | error e=>exact hr₂
      | ok fl₂=>
        cases fl₂ with
        | ret v=>
          obtain ⟨rfl,h',tk,ns,rfl,S',m',l',k'⟩:=hr₂
          repeat (any_goals (first | assumption | wp_step))
          exact h _ _ ns S' m' l' k'
        | _=>exact hr₂.elim
   | _=>exact hq.elim
end
end LS
namespace LS
open PySem PyProof.Rows
set_option maxRecDepth 100000
theorem zJ:Slot "set_iterator" "__next__" "set_iterator.__next__":=
 .of (owner:="set_iterator") (n:="__next__") (by rw [typeLookup_type,builtinLookup_eq_fast]; kernel_rfl) (by decide +kernel) (by decide +kernel) (by decide +kernel) (by first | exact .inl (by decide +kernel) | exact .inr (by decide +kernel)) (by rw [isSubtype_type]; kernel_rfl)
theorem zcO:Slot "set_iterator" "__iter__" "set_iterator.__iter__":=
 .of (owner:="set_iterator") (n:="__iter__") (by rw [typeLookup_type,builtinLookup_eq_fast]; kernel_rfl) (by decide +kernel) (by decide +kernel) (by decide +kernel) (by first | exact .inl (by decide +kernel) | exact .inr (by decide +kernel)) (by rw [isSubtype_type]; kernel_rfl)
theorem za2:entryFor table "set_iterator.__next__"=some Builtin.«set_iterator.__next__»:=entryFor_of_tree (by kernel_rfl)
theorem zeO:entryFor table "set_iterator.__iter__"=some Builtin.«dict_keyiterator.__iter__»:=
 entryFor_alias (id':="dict_keyiterator.__iter__") (by kernel_rfl) (by first | rfl | decide +kernel | (unfold String.splitOn; simp +decide [String.splitOnAux])) (by decide +kernel) (by kernel_rfl)
theorem zdP:entryFor table "set.__iter__"=some Builtin.«frozenset.__iter__»:=
 entryFor_alias (id':="frozenset.__iter__") (by kernel_rfl) (by first | rfl | decide +kernel | (unfold String.splitOn; simp +decide [String.splitOnAux])) (by decide +kernel) (by kernel_rfl)
theorem zg5:Manifest.owners.lookup (String.ofList ['r','o','t','a','r','e','t','i','_','t','e','s'].reverse)=some Manifest.sig_set_iterator:=by kernel_rfl
theorem zbj (a:Value):argsOk "set_iterator.__next__" ⟨[a],[]⟩:=by
 unfold argsOk; rw [signature?_of (id:="set_iterator.__next__") (n:=['_','_','t','x','e','n','_','_']) (o:=['r','o','t','a','r','e','t','i','_','t','e','s']) (by kernel_rfl) zg5]; kernel_rfl
theorem zfD (a:Value):argsOk "set_iterator.__iter__" ⟨[a],[]⟩:=by
 unfold argsOk; rw [signature?_of (id:="set_iterator.__iter__") (n:=['_','_','r','e','t','i','_','_']) (o:=['r','o','t','a','r','e','t','i','_','t','e','s']) (by kernel_rfl) zg5]; kernel_rfl
noncomputable def IsSI (h:Heap) (it a:Addr) (first:Value) (i n ep:Nat):Prop:=∃ o,h.get? it=some o /\ o.cls=.type "set_iterator" /\ o.data=.fields #[first,.int i 0,.ref a,.int n 0,.int ep 0]
section
variable {prog:Program} {w:World} {A:Around} {E:Value->Shared->Prop} {s:Shared} {it a:Addr} {first:Value} {i n ep:Nat}
theorem IsSI.at {h h':Heap} (x:IsSI h it a first i n ep) (k:∀ o,h.get? it=some o->h'.get? it=some o):IsSI h' it a first i n ep:=let ⟨o,e,r⟩:=x; ⟨o,k o e,r⟩
theorem IsSI.typeIs (x:IsSI s.heap it a first i n ep):s.TypeIs (.ref it) "set_iterator":=let ⟨o,e,c,_⟩:=x; ⟨o,e,c⟩
noncomputable def SetAt (h:Heap) (a:Addr) (es:Array (Int×Value)) (ep:Nat) (t:SetTable):Prop:=∃ o,h.get? a=some o /\ o.ExactSet /\ o.data=.set es ep t
theorem SetAt.at {h h':Heap} {es:Array (Int×Value)} {t:SetTable} (x:SetAt h a es ep t) (k:∀ o,h.get? a=some o->h'.get? a=some o):SetAt h' a es ep t:=let ⟨o,e,r⟩:=x; ⟨o,k o e,r⟩
theorem zgh (hit:IsSI s.heap it a first i n ep) {Q:Value->Shared->Prop} (h:Q (.ref it) s):wpAny (model prog w) A (pyIter (.ref it)) Q E s:=by
 refine wpAny_pyIter_slot hit.typeIs zcO (wpAny_call_entry zcO hit.typeIs zeO ?_ (zfD _))
 show wpAny _ _ (ret (.ref it)) _ _ s
 exact wpAny_pure ⟨_,rfl,"set_iterator",_,hit.typeIs,zJ.lookup,h⟩
variable {es:Array (Int×Value)} {t:SetTable} {slot:Nat}
theorem zit {x:Value} {next:Nat} {Q:Option Value->Shared->Prop} (hit:IsSI s.heap it a (.int slot 0) i n ep) (hS:SetAt s.heap a es ep t) (hf:t.fits es.size=true) (hn:es.size=n)
  (hx:∀ (A':Around) (Q':Option (Value×Nat)->Shared->Prop) (E':Value->Shared->Prop),Q' (some (x,next)) s->wpAny (model prog w) A' (setNext a slot i ep) Q' E' s)
  (hQ:∀ h',IsSI h' it a (.int next 0) (i + 1) n ep->Heap.SameBut it s.heap h'->Q (some x) { s with heap:=h' }):wpAny (model prog w) A (pyNext (.ref it)) Q E s:=by
 obtain ⟨o,ho,hc,hd⟩:=id hit
 obtain ⟨os,hos,hex,hds⟩:=id hS
 unfold pyNext
 refine wpAny_bind (wpAny_attempt (wpAny_callSpecial?_slot (name:=Str.ofString "__next__") hit.typeIs zJ (wpAny_call_entry zJ hit.typeIs za2 ?_ (zbj _))))
 unfold Builtin.«set_iterator.__next__»
 refine wpAny_bind (wpAny_pure ?_)
 dsimp only
 refine wpAny_bind (wpAny_fieldsOf ho hd ?_)
 dsimp only
 refine wpAny_bind (wpAny_setEntries_of hos hds hf ?_)
 rw [if_neg (by rw [hn]; simp)]
 refine wpAny_bind ?_
 simp only [Int.toNat_natCast]
 refine hx _ _ _ ?_
 dsimp only
 refine wpAny_bind (wpAny_setField ho hd (by simp) ?_)
 have e1:=Heap.get?_update_self (Obj.mapFields (·.setIfInBounds 0 (rawInt next))) ho (Obj.isFreed_of_fields (Obj.data_mapFields hd _))
 have d1:=Obj.data_mapFields hd (·.setIfInBounds 0 (rawInt next))
 refine wpAny_bind (wpAny_setField e1 d1 (by simp) ?_)
 refine wpAny_pure ⟨x,rfl,wpAny_pure (hQ _ ?_ ((Heap.SameBut.update ..).trans (Heap.SameBut.update ..)))⟩
 refine ⟨_,Heap.get?_update_self _ e1 (Obj.isFreed_of_fields (Obj.data_mapFields d1 _)),?_,?_⟩
 ·rw [Obj.cls_mapFields,Obj.cls_mapFields]; exact hc
 ·rw [Obj.data_mapFields d1]; simp [rawInt]
theorem zkT {Q:Option Value->Shared->Prop} (hh:A.handled=none) (hit:IsSI s.heap it a (.int slot 0) i n ep) (hS:SetAt s.heap a es ep t) (hf:t.fits es.size=true) (hn:es.size=n)
  (hx:∀ (A':Around) (Q':Option (Value×Nat)->Shared->Prop) (E':Value->Shared->Prop),Q' none s->wpAny (model prog w) A' (setNext a slot i ep) Q' E' s)
  (hQ:∀ h',Heap.ExtBut it s.heap h'->Q none { s with heap:=h' }):wpAny (model prog w) A (pyNext (.ref it)) Q E s:=by
 obtain ⟨o,ho,hc,hd⟩:=id hit
 obtain ⟨os,hos,hex,hds⟩:=id hS
 unfold pyNext
 refine wpAny_bind (wpAny_attempt (wpAny_callSpecial?_slot (name:=Str.ofString "__next__") hit.typeIs zJ (wpAny_call_entry zJ hit.typeIs za2 ?_ (zbj _))))
 unfold Builtin.«set_iterator.__next__»
 refine wpAny_bind (wpAny_pure ?_)
 dsimp only
 refine wpAny_bind (wpAny_fieldsOf ho hd ?_)
 dsimp only
 refine wpAny_bind (wpAny_setEntries_of hos hds hf ?_)
 rw [if_neg (by rw [hn]; simp)]
 refine wpAny_bind ?_
 simp only [Int.toNat_natCast]
 refine hx _ _ _ ?_
 dsimp only
 refine wpAny_bind (wpAny_setField ho hd (by simp) ?_)
 refine wpAny_bind ?_
 simp only [newExc,newTuple]
 refine wpAny_bind (wpAny_newObj_type ?_ (by size_fits))
 refine wpAny_bind (m:=firstArgMember _ _) (wpAny_of_eq (a:=Value.none) (by first | rfl | (simp only [firstArgMember]; rfl)) ?_)
 refine wpAny_newObj_type ?_ (by size_fits)
 simp only [raiseNew]
 refine wpAny_bind (wpAny_handled ?_)
 first | rw [show A.in1.handled=none from hh] | rw [hh]
 refine wpAny_bind (wpAny_pure (wpAny_throw ?_))
 refine wpAny_bind (wpAny_isInstance (T:="StopIteration") (b:=true) ⟨_,Heap.get?_push_size _ rfl,rfl⟩ isSubtype_stop ?_)
 exact wpAny_pure (hQ _ (((Heap.SameBut.update ..).extBut.push _).push _))
theorem zkS {x:Value} {pl:Nat} {tp:Addr} {ps:Array Value} {hsh:Int} {Q:Option Value->Shared->Prop} (hit:IsSI s.heap it a (.ref tp) i n ep) (ht:s.heap.IsTuple tp ps) (hS:SetAt s.heap a es ep t) (hf:t.fits es.size=true) (hn:es.size=n)
  (hp:ps[i]?=some (.int pl 0)) (hx:es[pl]?=some (hsh,x))
  (hQ:∀ h',IsSI h' it a (.ref tp) (i + 1) n ep->Heap.SameBut it s.heap h'->Q (some x) { s with heap:=h' }):wpAny (model prog w) A (pyNext (.ref it)) Q E s:=by
 obtain ⟨o,ho,hc,hd⟩:=id hit
 obtain ⟨os,hos,hex,hds⟩:=id hS
 obtain ⟨ot,hot,_,nt,hdt⟩:=ht
 unfold pyNext
 refine wpAny_bind (wpAny_attempt (wpAny_callSpecial?_slot (name:=Str.ofString "__next__") hit.typeIs zJ (wpAny_call_entry zJ hit.typeIs za2 ?_ (zbj _))))
 unfold Builtin.«set_iterator.__next__»
 refine wpAny_bind (wpAny_pure ?_)
 dsimp only
 refine wpAny_bind (wpAny_fieldsOf ho hd ?_)
 dsimp only
 refine wpAny_bind (wpAny_setEntries_of hos hds hf ?_)
 rw [if_neg (by rw [hn]; simp)]
 refine wpAny_bind (wpAny_seqItems hot hdt ?_)
 dsimp only
 simp only [Int.toNat_natCast,hp]
 refine wpAny_bind ?_
 unfold setNextDrawn
 refine wpAny_bind (wpAny_setState_of hos hds hf ?_)
 dsimp only
 rw [if_neg (by simp)]
 simp only [hx]
 refine wpAny_pure ?_
 refine wpAny_bind (wpAny_setField ho hd (by simp) ?_)
 refine wpAny_pure ⟨x,rfl,wpAny_pure (hQ _ ?_ (Heap.SameBut.update ..))⟩
 refine ⟨_,Heap.get?_update_self _ ho (Obj.isFreed_of_fields (Obj.data_mapFields hd _)),?_,?_⟩
 ·rw [Obj.cls_mapFields]; exact hc
 ·rw [Obj.data_mapFields hd]; simp [rawInt]
theorem zmN {tp:Addr} {ps:Array Value} {Q:Option Value->Shared->Prop} (hh:A.handled=none) (hit:IsSI s.heap it a (.ref tp) i n ep) (ht:s.heap.IsTuple tp ps) (hS:SetAt s.heap a es ep t) (hf:t.fits es.size=true) (hn:es.size=n)
  (hp:ps[i]?=none) (hQ:∀ h',Heap.ExtBut it s.heap h'->Q none { s with heap:=h' }):wpAny (model prog w) A (pyNext (.ref it)) Q E s:=by
 obtain ⟨o,ho,hc,hd⟩:=id hit
 obtain ⟨os,hos,hex,hds⟩:=id hS
 obtain ⟨ot,hot,_,nt,hdt⟩:=ht
 unfold pyNext
 refine wpAny_bind (wpAny_attempt (wpAny_callSpecial?_slot (name:=Str.ofString "__next__") hit.typeIs zJ (wpAny_call_entry zJ hit.typeIs za2 ?_ (zbj _))))
 unfold Builtin.«set_iterator.__next__»
 refine wpAny_bind (wpAny_pure ?_)
 dsimp only
 refine wpAny_bind (wpAny_fieldsOf ho hd ?_)
 dsimp only
 refine wpAny_bind (wpAny_setEntries_of hos hds hf ?_)
 rw [if_neg (by rw [hn]; simp)]
 refine wpAny_bind (wpAny_seqItems hot hdt ?_)
 dsimp only
 simp only [Int.toNat_natCast,hp]
 refine wpAny_bind (wpAny_setField ho hd (by simp) ?_)
 have e1:=Heap.get?_update_self (Obj.mapFields (·.setIfInBounds 0 (rawInt 0))) ho (Obj.isFreed_of_fields (Obj.data_mapFields hd _))
 have d1:=Obj.data_mapFields hd (·.setIfInBounds 0 (rawInt 0))
 refine wpAny_bind (wpAny_setField e1 d1 (by simp) ?_)
 refine wpAny_bind ?_
 simp only [newExc,newTuple]
 refine wpAny_bind (wpAny_newObj_type ?_ (by size_fits))
 refine wpAny_bind (m:=firstArgMember _ _) (wpAny_of_eq (a:=Value.none) (by first | rfl | (simp only [firstArgMember]; rfl)) ?_)
 refine wpAny_newObj_type ?_ (by size_fits)
 simp only [raiseNew]
 refine wpAny_bind (wpAny_handled ?_)
 first | rw [show A.in1.handled=none from hh] | rw [hh]
 refine wpAny_bind (wpAny_pure (wpAny_throw ?_))
 refine wpAny_bind (wpAny_isInstance (T:="StopIteration") (b:=true) ⟨_,Heap.get?_push_size _ rfl,rfl⟩ isSubtype_stop ?_)
 exact wpAny_pure (hQ _ ((((Heap.SameBut.update ..).trans (Heap.SameBut.update ..)).extBut.push _).push _))
theorem zd9 (hS:SetAt s.heap a es ep t) (hf:t.fits es.size=true) (hw:w.params.followText "set-order"=false) (hl:t.led=true) (hp:(!t.plain && decide (es.size > 1))=false) {Q:Option (Value×Nat)->Shared->Prop}
  (h:Q (match es[SetTable.below t.place slot]?,t.place[SetTable.below t.place slot]? with | some (_,x),some j=>some (x,j + 1) | _,_=>none) s):wpAny (model prog w) A (setNext a slot i ep) Q E s:=by
 obtain ⟨o,ho,_,hd⟩:=hS
 unfold setNext
 refine wpAny_bind (wpAny_setState_of ho hd hf ?_)
 dsimp only
 refine wpAny_bind ?_
 unfold setsByText
 refine wpAny_bind (wpAny_askSetting (wpAny_pure ?_))
 show wpAny _ _ (if w.params.followText "set-order"=true then _ else _) _ _ _
 rw [hw,if_neg Bool.false_ne_true]
 show wpAny _ _ (if (!t.plain && decide (es.size > 1))=true then _ else _) _ _ _
 rw [hp,if_neg Bool.false_ne_true]
 refine wpAny_bind ?_
 show wpAny _ _ (if (!t.led && !es.isEmpty)=true then _ else _) _ _ _
 rw [hl,if_neg (by simp)]
 exact wpAny_pure (wpAny_pure h)
theorem zfw (hS:SetAt s.heap a es ep t) (hf:t.fits es.size=true) (hw:w.params.followText "set-order"=true) {Q:Option (Value×Nat)->Shared->Prop}
  (h:Q (((pickOrder (w.params.setOrder a ep) es)[i]?).map fun e=>(e.2,slot)) s):wpAny (model prog w) A (setNext a slot i ep) Q E s:=by
 obtain ⟨o,ho,_,hd⟩:=hS
 unfold setNext
 refine wpAny_bind (wpAny_setState_of ho hd hf ?_)
 dsimp only
 refine wpAny_bind ?_
 unfold setsByText
 refine wpAny_bind (wpAny_askSetting (wpAny_pure ?_))
 show wpAny _ _ (if w.params.followText "set-order"=true then _ else _) _ _ _
 rw [hw,if_pos rfl]
 rw [if_neg (by simp)]
 refine wpAny_bind ?_
 unfold setWalk
 refine wpAny_bind (wpAny_setState_of ho hd hf ?_)
 dsimp only
 refine wpAny_bind ?_
 unfold setsByText
 refine wpAny_bind (wpAny_askSetting (wpAny_pure ?_))
 show wpAny _ _ (if w.params.followText "set-order"=true then _ else _) _ _ _
 rw [hw,if_pos rfl]
 exact wpAny_bind (wpAny_askSetting (wpAny_pure (wpAny_pure h)))
end
end LS
namespace LS
open PySem PySem.Spec PyProof.Rows
theorem zcy {α:Type}:∀ {l:List α} {i:Nat} (h:i < l.length),(l[i] :: l.eraseIdx i).Perm l
 | x :: l,0,_=>by simp
 | x :: l,i + 1,h=>by
   have h':i < l.length:=by simpa using h
   have:=zcy h'
   simp only [List.getElem_cons_succ,List.eraseIdx_cons_succ]
   exact (List.Perm.swap _ _ _).trans (List.Perm.cons _ this)
theorem zhP {α:Type} (next:Nat->Nat):∀ (fuel k:Nat) (left:List α) (out:Array α),left.length=fuel->(pickOrder.go next fuel k left out).toList.Perm (out.toList ++ left)
 | 0,k,left,out,h=>by
   have:left=[]:=List.length_eq_zero_iff.mp h
   subst this
   rw [pickOrder.go,List.append_nil]
 | fuel + 1,k,left,out,h=>by
   rw [pickOrder.go]
   have hl:next k % left.length < left.length:=Nat.mod_lt _ (by omega)
   rw [List.getElem?_eq_getElem hl]
   dsimp only
   refine (zhP next fuel (k + 1) _ _ (by rw [List.length_eraseIdx_of_lt hl]; omega)).trans ?_
   rw [Array.toList_push,List.append_assoc]
   exact List.Perm.append_left _ (zcy hl)
theorem zjm {α:Type} (next:Nat->Nat) (xs:Array α):(pickOrder next xs).toList.Perm xs.toList:=by
 have:=zhP next xs.size 0 xs.toList #[] (by simp)
 simpa [pickOrder] using this
section
variable {prog:Program} {w:World} {A:Around} {E:Value->Shared->Prop} {s:Shared} {it a:Addr} {first:Value} {i n ep:Nat} {es:Array (Int×Value)} {t:SetTable}
theorem zhs {M:Model} {src:Source} {Q:Nat->Shared->Prop} (hn:n≠0) (h:∀ i d',i < n->Q i { s with drawn:=d' }):wpAny M A (choose src n) Q E s:=
 fun _ _ _=>⟨hn,h _ _ (Nat.mod_lt _ (Nat.pos_of_ne_zero hn))⟩
theorem zd2 {α:Type} {M:Model}:∀ (n:Nat) (xs:List α) (s:Shared) (Q:List α->Shared->Prop),xs.length=n->(∀ ys d',ys.Perm xs->Q ys { s with drawn:=d' })->wpAny M A (drawOrder n xs) Q E s
 | 0,xs,s,Q,hl,h=>by
   have e:xs=[]:=List.length_eq_zero_iff.mp hl
   subst e
   rw [drawOrder]
   exact wpAny_pure (h [] s.drawn (.refl _))
 | n + 1,[],s,Q,hl,h=>by cases hl
 | n + 1,x :: xs,s,Q,hl,h=>by
   rw [drawOrder]
   rotate_left
   ·intro z; cases z
   refine wpAny_bind (zhs (by simp) fun i d' hi=>?_)
   rw [List.getElem?_eq_getElem hi]
   dsimp only
   refine wpAny_bind (zd2 n _ _ _ (by rw [List.length_eraseIdx_of_lt hi]; simp at hl ⊢; omega) fun ys d2 hp=>wpAny_pure ?_)
   refine h _ d2 ?_
   exact (List.Perm.cons _ hp).trans (zcy hi)
theorem zjg {I:Addr} (hf:t.fits es.size=true) (hw:w.params.followText "set-order"=true) (hne:a≠I) (hh:A.handled=none):
  Walks prog w A I [I,a] [I] (pickOrder (w.params.setOrder a ep) es).size (fun i v=>((pickOrder (w.params.setOrder a ep) es).toList.map (·.2))[i]?=some v) (fun i h=>IsSI h I a (.int (0:Nat) 0) i es.size ep /\ SetAt h a es ep t) where
 sub:=fun b hb=>by simp at hb; simp [hb]
 frame:=fun _ _ _ st hk=>⟨st.1.at fun o e=>hk I (by simp) o e,st.2.at fun o e=>hk a (by simp) o e⟩
 item:=fun i s Q E hi st hQ=>by
  refine zit (x:=((pickOrder (w.params.setOrder a ep) es)[i]).2) (next:=0) st.1 st.2 hf rfl (fun A' Q' E' q=>zfw st.2 hf hw (by rw [Array.getElem?_eq_getElem hi]; exact q)) fun h' hit' hs'=>?_
  exact hQ _ h' s.toks (by simp [hi]) ⟨hit',st.2.at fun o e=>hs'.extBut a o hne e⟩ fun b o hb e=>hs'.extBut b o (fun h=>hb (by simp [h])) e
 done:=fun s Q E st hQ=>zkT hh st.1 st.2 hf rfl (fun A' Q' E' q=>zfw st.2 hf hw (by rw [Array.getElem?_eq_none (by simp)]; exact q)) fun h' he'=>hQ h' s.toks fun b o hb e=>he' b o (fun h=>hb (by simp [h])) e
 self:=fun _ _ _ _ st hQ=>zgh st.1 hQ
theorem zhm {I:Addr} (hf:t.fits es.size=true) (hw:w.params.followText "set-order"=false) (hl:t.led=true) (hp:(!t.plain && decide (es.size > 1))=false) (hr:Ris t.place.toList) (hne:a≠I) (hh:A.handled=none):
  Walks prog w A I [I,a] [I] es.size (fun i v=>(es.toList.map (·.2))[i]?=some v)
   (fun i h=>∃ slot:Nat,IsSI h I a (.int slot 0) i es.size ep /\ SetAt h a es ep t /\ (∀ k,k < i->t.place.getD k 0 < slot) /\ ∀ k,i<=k->k < t.place.size->slot<=t.place.getD k 0) where
 sub:=fun b hb=>by simp at hb; simp [hb]
 frame:=fun _ _ _ ⟨slot,st1,st2,st3⟩ hk=>⟨slot,st1.at fun o e=>hk I (by simp) o e,st2.at fun o e=>hk a (by simp) o e,st3⟩
 item:=fun i s Q E hi ⟨slot,st1,st2,st3,st4⟩ hQ=>by
  have hz:t.place.size=es.size:=by simp only [SetTable.fits,Bool.and_eq_true,beq_iff_eq] at hf; exact hf.1
  have hb:SetTable.below t.place slot=i:=zeM hr (by omega) st3 st4
  have hpl:t.place[i]?=some (t.place.getD i 0):=by rw [Array.getElem?_eq_getElem (by omega)]; simp [Array.getD,hz,hi]
  refine zit (x:=es[i].2) (next:=t.place.getD i 0 + 1) st1 st2 hf rfl (fun A' Q' E' q=>zd9 st2 hf hw hl hp (by rw [hb,Array.getElem?_eq_getElem hi,hpl]; exact q)) fun h' hit' hs'=>?_
  refine hQ _ h' s.toks (by simp [hi]) ⟨_,hit',st2.at fun o e=>hs'.extBut a o hne e,fun k hk=>?_,fun k h1 h2=>?_⟩ fun b o hb e=>hs'.extBut b o (fun h=>hb (by simp [h])) e
  ·by_cases hki:k=i
   ·rw [hki]; omega
   ·have:=zcG hr (show k < i by omega) (by omega) 0 0
    omega
  ·have:=zcG hr (show i < k by omega) h2 0 0
   omega
 done:=fun s Q E ⟨slot,st1,st2,st3,st4⟩ hQ=>by
  have hz:t.place.size=es.size:=by simp only [SetTable.fits,Bool.and_eq_true,beq_iff_eq] at hf; exact hf.1
  have hb:SetTable.below t.place slot=es.size:=zeM hr (by omega) st3 st4
  exact zkT hh st1 st2 hf rfl (fun A' Q' E' q=>zd9 st2 hf hw hl hp (by rw [hb,Array.getElem?_eq_none (Nat.le_refl _)]; exact q)) fun h' he'=>hQ h' s.toks fun b o hb e=>he' b o (fun h=>hb (by simp [h])) e
 self:=fun _ _ _ _ ⟨slot,st1,_⟩ hQ=>zgh st1 hQ
theorem zhc {I tp:Addr} {ys:List Nat} (hf:t.fits es.size=true) (hy:ys.Perm (List.range es.size)) (hne:a≠I) (hnt:tp≠I) (hh:A.handled=none):
  Walks prog w A I [I,a,tp] [I] es.size (fun i v=>(ys.map fun p=>(es.getD p (0,Value.none)).2)[i]?=some v) (fun i h=>IsSI h I a (.ref tp) i es.size ep /\ h.IsTuple tp (ys.map fun p:Nat=>rawInt p).toArray /\ SetAt h a es ep t) where
 sub:=fun b hb=>by simp at hb; simp [hb]
 frame:=fun _ _ _ st hk=>⟨st.1.at fun o e=>hk I (by simp) o e,st.2.1.at fun o e=>hk tp (by simp) o e,st.2.2.at fun o e=>hk a (by simp) o e⟩
 item:=fun i s Q E hi st hQ=>by
  have hyl:ys.length=es.size:=by rw [hy.length_eq]; simp
  have hp:ys[i] < es.size:=List.mem_range.mp (hy.mem_iff.mp (List.getElem_mem (by omega)))
  refine zkS (x:=es[ys[i]].2) (pl:=ys[i]) (hsh:=es[ys[i]].1) st.1 st.2.1 st.2.2 hf rfl (by simp [hyl,hi,rawInt]) (by rw [Array.getElem?_eq_getElem hp]) fun h' hit' hs'=>?_
  refine hQ _ h' s.toks ?_ ⟨hit',st.2.1.at fun o e=>hs'.extBut tp o hnt e,st.2.2.at fun o e=>hs'.extBut a o hne e⟩ fun b o hb e=>hs'.extBut b o (fun h=>hb (by simp [h])) e
  rw [List.getElem?_map,List.getElem?_eq_getElem (by omega)]
  simp [Array.getD,hp]
 done:=fun s Q E st hQ=>by
  have hyl:ys.length=es.size:=by rw [hy.length_eq]; simp
  exact zmN hh st.1 st.2.1 st.2.2 hf rfl (by simp [hyl]) fun h' he'=>hQ h' s.toks fun b o hb e=>he' b o (fun h=>hb (by simp [h])) e
 self:=fun _ _ _ _ st hQ=>zgh st.1 hQ
theorem zkr {Q:Value->Shared->Prop} (hS:SetAt s.heap a es ep t) (hf:t.fits es.size=true) (hr:Ris t.place.toList) (hl:t.led=ledOf w) (hz:es.size<=sizeLine)
  (h:∀ (I:Addr) (fp:List Addr) (ord:List Value) (St:Nat->Heap->Prop) (h1:Heap) (d1:Drawn),ord.Perm (es.toList.map (·.2))->(∀ A':Around,A'.handled=none->Walks prog w A' I fp [I] ord.length (fun i v=>ord[i]?=some v) St)->St 0 h1->
   (∀ b o,s.heap.get? b=some o->h1.get? b=some o)->s.heap.objs.size<=I->(∀ b∈fp,b=a \/ s.heap.objs.size<=b)->Q (.ref I) { s with heap:=h1,drawn:=d1 }):wpAny (model prog w) A (pyIter (.ref a)) Q E s:=by
 obtain ⟨o,ho,hex,hd⟩:=id hS
 have hT:s.TypeIs (.ref a) "set":=⟨o,ho,hex.1⟩
 have hlt:=Heap.lt_size ho
 refine wpAny_pyIter_slot hT PySem.F.slot_set_iter (wpAny_call_entry PySem.F.slot_set_iter hT zdP ?_ (PySem.F.args_set_iter_1 _))
 unfold Builtin.«frozenset.__iter__»
 refine wpAny_bind (wpAny_pure ?_)
 refine wpAny_bind ?_
 unfold Builtin.Frozenset.sizeOf
 refine wpAny_bind (wpAny_setEntries_of ho hd hf (wpAny_pure ?_))
 refine wpAny_bind ?_
 unfold setDrawn
 refine wpAny_bind (wpAny_setState_of ho hd hf ?_)
 dsimp only
 refine wpAny_bind ?_
 unfold setsByText
 refine wpAny_bind (wpAny_askSetting (wpAny_pure (wpAny_pure ?_)))
 show wpAny _ _ (if (!w.params.followText "set-order" && (!t.plain && decide (es.size > 1)))=true then _ else _) _ _ _
 have slots:∀ {ord:List Value} (St:Addr->Nat->Heap->Prop),ord.Perm (es.toList.map (·.2))->(∀ (A':Around) (I:Addr),a≠I->A'.handled=none->Walks prog w A' I [I,a] [I] ord.length (fun i v=>ord[i]?=some v) (St I))->
   (∀ h' I,IsSI h' I a (.int (0:Nat) 0) 0 es.size ep->SetAt h' a es ep t->St I 0 h')->Q (.ref s.heap.objs.size) { s with heap:=s.heap.push { cls:=.type "set_iterator",data:=.fields #[.int (0:Nat) 0,.int (0:Nat) 0,.ref a,.int (es.size:Nat) 0,.int (ep:Nat) 0] } }:=by
  intro ord St hp hW hst
  have hne:a≠s.heap.objs.size:=Nat.ne_of_lt hlt
  exact h s.heap.objs.size [s.heap.objs.size,a] ord (St s.heap.objs.size) _ s.drawn hp (fun A' hh=>hW A' _ hne hh) (hst _ _ ⟨_,Heap.get?_push_size _ rfl,rfl,rfl⟩ (hS.at fun o e=>Heap.get?_push_of_some _ e)) (fun b o e=>Heap.get?_push_of_some _ e) (Nat.le_refl _)
   fun b hb=>by
    rcases List.mem_cons.mp hb with z | z
    ·exact .inr (by rw [z]; exact Nat.le_refl _)
    ·exact .inl (by simpa using z)
 by_cases hdr:(!w.params.followText "set-order" && (!t.plain && decide (es.size > 1)))=true
 ·rw [if_pos hdr]
  refine wpAny_bind (zd2 _ _ _ _ (by simp) fun ys d' hy=>?_)
  refine wpAny_bind (wpAny_newTuple ?_ (by rw [List.length_map,hy.length_eq]; simpa using hz))
  have hT1:(s.heap.push { cls:=.type "tuple",data:=.seq (ys.map fun p:Nat=>rawInt p).toArray }).IsTuple s.heap.objs.size (ys.map fun p:Nat=>rawInt p).toArray:=⟨_,Heap.get?_push_size _ rfl,rfl,_,rfl⟩
  have hS1:=hS.at (h':=s.heap.push { cls:=.type "tuple",data:=.seq (ys.map fun p:Nat=>rawInt p).toArray }) fun o e=>Heap.get?_push_of_some _ e
  obtain ⟨o1,ho1,_,hd1⟩:=id hS1
  refine wpAny_bind (wpAny_setEpoch_of ho1 hd1 hf ?_)
  have hs1:(s.heap.push { cls:=.type "tuple",data:=.seq (ys.map fun p:Nat=>rawInt p).toArray }).objs.size=s.heap.objs.size + 1:=Heap.size_push _ _
  refine wpAny_bind (wpAny_newObj_type (wpAny_pure ⟨_,rfl,"set_iterator",_,⟨_,Heap.get?_push_size _ rfl,rfl⟩,zJ.lookup,?_⟩))
  have hy2:(ys.map fun p=>(es.getD p (0,Value.none)).2).Perm (es.toList.map (·.2)):=by
   refine (hy.map _).trans ?_
   have e:(List.range es.size).map (fun p=>(es.getD p (0,Value.none)).2)=es.toList.map (·.2):=by
    refine List.ext_getElem (by simp) fun i h1 h2=>?_
    simp at h1
    simp [Array.getD,h1]
   rw [e]
  have hol:(ys.map fun p=>(es.getD p (0,Value.none)).2).length=es.size:=by rw [List.length_map,hy.length_eq]; simp
  refine h (s.heap.push { cls:=.type "tuple",data:=.seq (ys.map fun p:Nat=>rawInt p).toArray }).objs.size [_,a,s.heap.objs.size] _ (fun i h=>IsSI h (s.heap.push { cls:=.type "tuple",data:=.seq (ys.map fun p:Nat=>rawInt p).toArray }).objs.size a (.ref s.heap.objs.size) i es.size ep /\ h.IsTuple s.heap.objs.size (ys.map fun p:Nat=>rawInt p).toArray /\ SetAt h a es ep t) _ d' hy2 (fun A' hh=>by rw [hol]; exact zhc (t:=t) (ep:=ep) hf hy (by rw [hs1]; exact Nat.ne_of_lt (Nat.lt_succ_of_lt hlt)) (by rw [hs1]; exact Nat.ne_of_lt (Nat.lt_succ_self _)) hh)
   ⟨⟨_,Heap.get?_push_size _ rfl,rfl,by simp [rawInt]⟩,hT1.push _,hS1.at fun o e=>Heap.get?_push_of_some _ e⟩ (fun b o e=>Heap.get?_push_of_some _ (Heap.get?_push_of_some _ e)) (by rw [hs1]; exact Nat.le_succ _) fun b hb=>?_
  simp only [List.mem_cons,List.not_mem_nil,or_false] at hb
  rcases hb with z | z | z
  ·exact .inr (by rw [z,hs1]; exact Nat.le_succ _)
  ·exact .inl z
  ·exact .inr (by rw [z]; exact Nat.le_refl _)
 ·rw [if_neg hdr]
  refine wpAny_bind (wpAny_pure ?_)
  refine wpAny_bind (wpAny_setEpoch_of ho hd hf ?_)
  refine wpAny_bind (wpAny_newObj_type (wpAny_pure ⟨_,rfl,"set_iterator",_,⟨_,Heap.get?_push_size _ rfl,rfl⟩,zJ.lookup,?_⟩))
  cases hw:w.params.followText "set-order" with
  | true=>
    have hpz:((pickOrder (w.params.setOrder a ep) es).toList.map (·.2)).length=(pickOrder (w.params.setOrder a ep) es).size:=by simp
    exact slots (ord:=(pickOrder (w.params.setOrder a ep) es).toList.map (·.2)) (fun I i h=>IsSI h I a (.int (0:Nat) 0) i es.size ep /\ SetAt h a es ep t) ((zjm _ _).map _) (fun A' I hne hh=>by rw [hpz]; exact zjg hf hw hne hh) fun h' I x y=>⟨x,y⟩
  | false=>
    rw [hw] at hdr
    have hpl:(!t.plain && decide (es.size > 1))=false:=by simpa using hdr
    have hle:t.led=true:=by rw [hl]; simp [ledOf,hw]
    have hpz:(es.toList.map (·.2)).length=es.size:=by simp
    refine slots (ord:=es.toList.map (·.2)) (fun I i h=>∃ slot:Nat,IsSI h I a (.int slot 0) i es.size ep /\ SetAt h a es ep t /\ (∀ k,k < i->t.place.getD k 0 < slot) /\ ∀ k,i<=k->k < t.place.size->slot<=t.place.getD k 0) (.refl _)
     (fun A' I hne hh=>by rw [hpz]; exact zhm hf hw hle hpl hr hne hh) fun h' I x y=>⟨0,x,y,fun k hk=>by omega,fun k _ _=>Nat.zero_le _⟩
end
end LS
namespace LS
open PySem PySem.Spec PySem.Calls PyProof.Rows
section
variable {prog:Program} {w:World} {A:Around} {E:Value->Shared->Prop} {s:Shared} {a:Addr} {ns:List Int}
theorem zjP {Q:Bool->Shared->Prop} (hT:s.TypeIs (.ref a) "set") (h:Q false s):wpAny (model prog w) A (Builtin.List.listLengthHint (.ref a)) Q E s:=by
 unfold Builtin.List.listLengthHint
 refine wpAny_bind (wpAny_specialOf hT PySem.F.slot_set_len.lookup ?_)
 generalize hid:("set.__len__":String)=id0
 wp_delta
 rw [show splitId id0=some ("set","__len__") from by subst hid; decide +kernel]
 subst hid
 refine wpAny_bind (wpAny_isInstance (T:="set") (b:=true) hT (by rw [isSubtype_type]; kernel_rfl) ?_)
 refine wpAny_ite_split (fun z=>absurd z (by decide)) fun _=>?_
 refine wpAny_ite_split (fun _=>?_) fun z=>absurd (by decide +kernel) z
 exact wpAny_bind (wpAny_typeOf hT (wpAny_pure h))
theorem zgo {R:List Value->Shared->Prop} (hh:A.handled=none) (hS:ISet prog w s.heap a (ledOf w) ns)
  (h:∀ (h':Heap) (tk:Nat) (d':Drawn) (vs:List Value) (ms:List Int),(∀ b o,s.heap.get? b=some o->h'.get? b=some o)->s.heap.objs.size < h'.objs.size->IntsAre vs ms->ms.Perm ns->R vs { s with heap:=h',toks:=tk,drawn:=d' }):
  wpAny (model prog w) A (collect (.ref a)) R E s:=by
 obtain ⟨o,es,ep,t,ho,hex,hd,h1,h2,h3,h4,h5,h6,h7⟩:=hS
 have hz:=fits_of_scanBound h4
 have hlt:=Heap.lt_size ho
 have hS0:SetAt s.heap a es ep t:=⟨o,ho,hex,hd⟩
 unfold collect
 refine wpAny_bind (wpAny_runValue (codeAny_builtin entry_proto_collect' ?_))
 rw [Around.under_plainId PySem.F.plain_proto_collect _]
 show wpAny _ A.in1 (newList [] >>= fun l=>again (.builtin "list.__iadd__" ⟨[l,.ref a],[]⟩)) _ _ s
 refine wpAny_bind (wpAny_newObj_type ?_)
 refine wpAny_pure ⟨plainId_quiet PySem.F.plain_list_iadd _,codeAny_builtin entry_list_iadd' ?_⟩
 rw [Around.under_plainId PySem.F.plain_list_iadd _]
 generalize hP:s.heap.push { cls:=.type "list",data:=.seq ([]:List Value).toArray }=P1
 have keep1:∀ b o,s.heap.get? b=some o->P1.get? b=some o:=fun b o e=>by rw [<- hP]; exact Heap.get?_push_of_some _ e
 have hL:P1.get? s.heap.objs.size=some { cls:=.type "list",data:=.seq #[] }:=by rw [<- hP]; exact Heap.get?_push_size _ rfl
 have hz1:P1.objs.size=s.heap.objs.size + 1:=by rw [<- hP]; exact Heap.size_push _ _
 show wpAny _ A.in1 (Builtin.List.listExtendWith (.ref s.heap.objs.size) (.ref a) (.ref s.heap.objs.size)) _ _ { s with heap:=P1 }
 have key:wpAny (model prog w) A.in1 (Builtin.List.listExtendWith (.ref s.heap.objs.size) (.ref a) (.ref s.heap.objs.size))
   (fun fin s'=>match fin with
    | .done f=>False
    | .again c'=>c'.quiet=true /\ codeAny (model prog w) A c' (fun q s'=>∃ (h':Heap) (tk:Nat) (d':Drawn) (acc:Array Value) (c':Nat) (ms:List Int),q=.ok (.ret (.ref s.heap.objs.size)) /\ s'={ s with heap:=h',toks:=tk,drawn:=d' } /\
      (∀ b o,s.heap.get? b=some o->h'.get? b=some o) /\ h'.get? s.heap.objs.size=some { cls:=.type "list",dict:=none,data:=.seq acc c',slots:=#[] } /\ IntsAre acc.toList ms /\ ms.Perm ns) s') (fun _ _=>False) { s with heap:=P1 }:=by
  unfold Builtin.List.listExtendWith
  have hS1:=hS0.at (h':=P1) fun o e=>keep1 a o e
  obtain ⟨o1,ho1,hex1,hd1⟩:=id hS1
  refine wpAny_bind (wpAny_typeOf (T:="set") ⟨o1,ho1,hex1.1⟩ ?_)
  have q1:Builtin.List.listSameRef (.ref s.heap.objs.size) (.ref a)=false:=by simp [Builtin.List.listSameRef,Nat.ne_of_gt hlt]
  have q2:(Value.type "set" == Value.type "list")=false:=by decide
  have q3:(Value.type "set" == Value.type "tuple")=false:=by decide
  simp only [q1,q2,q3,Bool.or_false,Bool.false_eq_true,if_false]
  refine wpAny_bind (zkr (s:={ s with heap:=P1 }) hS1 h5 h7 h6 hz fun I fp ord St hh1 d1 hp hW st0 kp hI hfp=>?_)
  replace kp:∀ b o,P1.get? b=some o->hh1.get? b=some o:=kp
  replace hI:P1.objs.size<=I:=hI
  replace hfp:∀ b∈fp,b=a \/ P1.objs.size<=b:=hfp
  have hSf:s.heap.objs.size∉fp:=fun z=>by
   rcases hfp _ z with e | e
   ·exact Nat.lt_irrefl _ (e ▸ hlt)
   ·rw [hz1] at e; exact Nat.not_succ_le_self _ e
  have hSI:s.heap.objs.size≠I:=fun z=>by rw [<- z,hz1] at hI; exact Nat.not_succ_le_self _ hI
  obtain ⟨o2,ho2,hex2,_⟩:=hS1.at (h':=hh1) fun o e=>kp a o e
  obtain ⟨i0,hi0⟩:=zds h2 hp
  have hol:ord.length<=sizeLine:=by rw [hp.length_eq]; simpa using hz
  have run:∀ (g:Heap) (c0:Nat),St 0 g->(∀ b o,b≠s.heap.objs.size->hh1.get? b=some o->g.get? b=some o)->g.get? s.heap.objs.size=some { cls:=.type "list",data:=.seq #[] c0 }->
    codeAny (model prog w) A (.builtin "list.extend.loop" ⟨[.ref s.heap.objs.size,.ref I,.ref s.heap.objs.size],[]⟩) (fun q s'=>∃ (h':Heap) (tk:Nat) (d':Drawn) (acc:Array Value) (c':Nat) (ms:List Int),q=.ok (.ret (.ref s.heap.objs.size)) /\ s'={ s with heap:=h',toks:=tk,drawn:=d' } /\
     (∀ b o,s.heap.get? b=some o->h'.get? b=some o) /\ h'.get? s.heap.objs.size=some { cls:=.type "list",dict:=none,data:=.seq acc c',slots:=#[] } /\ IntsAre acc.toList ms /\ ms.Perm ns) { s with heap:=g,drawn:=d1 }:=by
   intro g c0 st k hg
   refine codeAny_extend_loopS (hW A.in1 hh).toS hol _ hSf _ ord.length 0 _ #[] c0 rfl (Nat.zero_le _) st hg (ItemsOf.nil _) fun s' acc' c' mv hS' hacc=>?_
   obtain ⟨hx,gx,dx,tx,ox⟩:=s'
   have eg:gx=s.gens:=mv.gens
   have ed:dx=d1:=mv.drawn
   have eo:ox=s.os:=mv.os
   subst eg ed eo
   have eacc:acc'.toList=ord:=by
    refine List.ext_getElem? fun j=>?_
    by_cases hj:j < acc'.size
    ·have q:=hacc.2 j _ (Array.getElem?_eq_getElem hj)
     rw [q]; simp [hj]
    ·rw [List.getElem?_eq_none (by simp; omega),List.getElem?_eq_none (by rw [<- hacc.1]; omega)]
   refine ⟨hx,tx,dx,acc',c',i0,rfl,rfl,fun b o e=>?_,hS',by rw [eacc]; exact hi0.1,hi0.2⟩
   have hb:=Heap.lt_size e
   refine mv.heap b o ?_ (k b o (Nat.ne_of_lt hb) (kp b o (keep1 b o e)))
   simp only [List.mem_cons,List.not_mem_nil,or_false,not_or]
   exact ⟨Nat.ne_of_lt hb,Nat.ne_of_lt (Nat.lt_of_lt_of_le hb (Nat.le_trans (by rw [hz1]; exact Nat.le_succ _) hI))⟩
  have hg1:hh1.get? s.heap.objs.size=some { cls:=.type "list",data:=.seq #[] }:=kp _ _ hL
  refine wpAny_bind (wpAny_holding (zjP ⟨o2,ho2,hex2.1⟩ ?_))
  refine wpAny_ite_split (fun _=>?_) (fun _=>wpAny_pure ⟨plainId_quiet PySem.F.plain_extend_loop _,run hh1 0 st0 (fun b o _ e=>e) hg1⟩)
  refine wpAny_bind (wpAny_rule (wpAny_bind ?_))
  show wpAny _ _ (updateSeq s.heap.objs.size (·.push .none) >>= fun _=>updateSeq s.heap.objs.size (·.pop)) _ _ _
  refine wpAny_bind (wpAny_updateSeq hg1 rfl ?_)
  have hg2:=Heap.get?_update_self (Obj.mapSeq (·.push Value.none)) hg1 rfl
  refine wpAny_updateSeq (hz:=by seq_fits) hg2 rfl ?_
  have hg3:=Heap.get?_update_self (Obj.mapSeq (·.pop)) hg2 rfl
  refine wpAny_pure ⟨plainId_quiet PySem.F.plain_extend_loop _,run _ _ ((hW A.in1 hh).frame 0 _ _ st0 fun b hb o e=>?_) (fun b o hb e=>?_) hg3⟩
  ·have hbS:b≠s.heap.objs.size:=fun z=>hSf (z ▸ hb)
   exact (Heap.get?_update_other _ _ (Ne.symm hbS)).trans ((Heap.get?_update_other _ _ (Ne.symm hbS)).trans e)
  ·exact (Heap.get?_update_other _ _ (Ne.symm hb)).trans ((Heap.get?_update_other _ _ (Ne.symm hb)).trans e)
 refine wpAny_mono key (fun fin s' x=>?_) fun _ _ z=>z.elim
 cases fin with
 | done f=>exact x.elim
 | again c₁=>
   refine ⟨x.1,codeAny_mono x.2 fun q s₂ y=>?_⟩
   obtain ⟨h',tk,d',acc,c',ms,rfl,rfl,hk,hS',i1,p1⟩:=y
   show wpAny _ A (load s.heap.objs.size >>= _) _ _ _
   exact wpAny_bind (wpAny_load hS' (wpAny_pure (h h' tk d' acc.toList ms hk (Heap.lt_size hS') i1 p1)))
theorem zc6 {Q:Value->Shared->Prop} (hh:A.handled=none) (hS:ISet prog w s.heap a (ledOf w) ns) (h64:ns.length < 64)
  (h:∀ (D:Addr) (h':Heap) (tk:Nat) (d':Drawn) (out:Array Value) (n:Nat) (ms:List Int),s.heap.objs.size<=D->(∀ b o,s.heap.get? b=some o->h'.get? b=some o)->h'.get? D=some (seqObj "list" out n)->IntsAre out.toList ms->ms.Perm ns->ms.Pairwise (·<=·)->Q (.ref D) { s with heap:=h',toks:=tk,drawn:=d' }):
  wpAny (model prog w) A (call (.builtin "sorted") [.ref a]) Q E s:=by
 refine call_function_entry kind_sorted plain_sorted entry_sorted (args_sorted1 _) ?_
 unfold Builtin.«sorted»
 refine wpAny_bind (m:=checkCount "sorted" 1 1 _) (wpAny_pure ?_)
 refine wpAny_bind (zgo (A:=A.in1) hh hS fun h' tk d' vs ms hk hgr hi hp=>?_)
 have hl:vs.length=ns.length:=by rw [<- hp.length_eq,(zao.mp hi).2,List.length_map]
 have hzl:vs.length<=sizeLine:=by rw [sizeLine_eq]; omega
 refine wpAny_bind (wpAny_newList ?_ hzl)
 have hoL:(h'.push (seqObj "list" vs.toArray 0)).get? h'.objs.size=some (seqObj "list" vs.toArray 0):=Heap.get?_push_size _ rfl
 refine wpAny_bind (wpAny_holding (wpAny_call_entry slot_list_sort ⟨_,hoL,rfl⟩ entry_list_sort (list_sort_tree hoL hi (by omega) fun out ms' a1 a2 a3=>⟨_,rfl,?_⟩) (args_list_sort _)))
 obtain ⟨en,hen⟩:=sortedHeap_at (out:=out) hoL
 refine wpAny_pure ⟨_,rfl,h h'.objs.size _ tk d' out en ms' (Nat.le_of_lt hgr) (fun b o e=>?_) hen a1 (a2.trans hp) a3⟩
 have hb:=Heap.lt_size (hk b o e)
 rw [sortedHeap_old (Nat.ne_of_lt hb) (by rw [size_push']; exact Nat.lt_succ_of_lt hb)]
 exact Heap.get?_push_of_some _ (hk b o e)
end
end LS
namespace L2
open PySem PySem.Spec PyProof.Rows LS
noncomputable def ins (x:Int):List Int->List Int
 | []=>[x]
 | y :: l=>if x < y then x :: y :: l else if x=y then y :: l else y :: ins x l
noncomputable def ss:List Int->List Int
 | []=>[]
 | x :: l=>ins x (ss l)
set_option tactic.hygienic true in
theorem zgl {x z:Int}:∀ {l:List Int},z∈ins x l↔z=x \/ z∈l
 | []=>by simp [ins]
 | y :: l=>by
   rw [ins]
   split
   ·simp
   ·split
    ·rename_i h; subst h; simp
    ·simp only [List.mem_cons,zgl]
     constructor
     ·rintro (h | h | h)
      ·exact .inr (.inl h)
      ·exact .inl h
      ·exact .inr (.inr h)
     ·rintro (h | h | h)
      ·exact .inr (.inl h)
      ·exact .inl h
      ·exact .inr (.inr h)
set_option tactic.hygienic true in
theorem zdR {x:Int}:∀ {l:List Int},l.Pairwise (· < ·)->(ins x l).Pairwise (· < ·)
 | [],_=>by simp [ins]
 | y :: l,h=>by
   rw [List.pairwise_cons] at h
   rw [ins]
   split
   ·rename_i hxy
    refine List.pairwise_cons.mpr ⟨fun z hz=>?_,List.pairwise_cons.mpr h⟩
    rcases List.mem_cons.mp hz with e | e
    ·rw [e]; exact hxy
    ·exact Int.lt_trans hxy (h.1 z e)
   ·split
    ·exact List.pairwise_cons.mpr h
    ·refine List.pairwise_cons.mpr ⟨fun z hz=>?_,zdR h.2⟩
     rcases zgl.mp hz with e | e
     ·rw [e]; omega
     ·exact h.1 z e
theorem zgD {z:Int}:∀ {l:List Int},z∈ss l↔z∈l
 | []=>by simp [ss]
 | x :: l=>by rw [ss,zgl,zgD,List.mem_cons]
theorem zdc:∀ {l:List Int},(ss l).Pairwise (· < ·)
 | []=>.nil
 | _ :: _=>zdR zdc
theorem zd5:∀ {l m:List Int},l.Pairwise (· < ·)->m.Pairwise (· < ·)->(∀ z,z∈l↔z∈m)->l=m
 | [],[],_,_,_=>rfl
 | [],y :: m,_,_,h=>absurd ((h y).mpr List.mem_cons_self) (by simp)
 | x :: l,[],_,_,h=>absurd ((h x).mp List.mem_cons_self) (by simp)
 | x :: l,y :: m,hl,hm,h=>by
   rw [List.pairwise_cons] at hl hm
   have e:x=y:=by
    rcases List.mem_cons.mp ((h x).mp List.mem_cons_self) with a | a
    ·exact a
    ·rcases List.mem_cons.mp ((h y).mpr List.mem_cons_self) with b | b
     ·exact b.symm
     ·have:=hl.1 y b
      have:=hm.1 x a
      omega
   subst e
   rw [zd5 hl.2 hm.2 fun z=>⟨fun hz=>?_,fun hz=>?_⟩]
   ·rcases List.mem_cons.mp ((h z).mp (List.mem_cons_of_mem _ hz)) with a | a
    ·have:=hl.1 z hz; omega
    ·exact a
   ·rcases List.mem_cons.mp ((h z).mpr (List.mem_cons_of_mem _ hz)) with a | a
    ·have:=hm.1 z hz; omega
    ·exact a
theorem znW {l m:List Int} (hm:m.Pairwise (· < ·)) (h:∀ z,z∈m↔z∈l):ss l=m:=zd5 zdc hm fun z=>by rw [zgD,h]
section
variable {X:Cx} {pins:List (Addr×Obj)} {σ:St} {H:Hp} {s:Shared}
theorem Inv.drew (I:Inv X pins σ H s) (d':Drawn):Inv X pins σ H { s with drawn:=d' }:=
 I.step (d':=d') (g':=s.gens) (t':=s.toks) (ch:=[]) (fun b hb=>by simp at hb) (fun _ _ _ _ _ e _=>e) (fun b o _ _ _ e _=>⟨o.slots,e⟩) (fun _ _ _ _ n=>n) (fun b o _ e=>⟨o,e⟩) (fun _ _ e=>e) (fun _ _ _ e=>e)
  (fun b ps e=>⟨#[],by rw [e]; simp⟩) (fun _ h=>h) I.hok I.bare
noncomputable def SetO (P:Program) (w:World) (a:Addr) (ns:List Int):HO:=.ext fun h=>ISet P w h a (ledOf w) ns
noncomputable def rSet (P:Program) (w:World) (K:PySem.W.Frag):List V->Hp->VK->Prop:=fun xs H Q=>∃ (p:Addr) (ms:List Int),xs=[.ref p] /\ (SqL K H p (ms.map V.int) \/ SqT K H p (ms.map V.int)) /\ ms.length + 1 < scanBound /\
 ∀ (l:Addr) (ns:List Int),H l=none->(∀ x,x∈ns↔x∈ms)->ns.length<=ms.length->Q (.ref l) (upd H l (SetO P w l ns))
theorem zhR (hc:X.calm=true):CallR X (.type "set") (rSet X.prog X.w X.K):=by
 intro pins s σ H xs us Q I r h
 obtain ⟨p,ms,rfl,hq,hb,q⟩:=h
 obtain ⟨u,rfl,rx⟩:=vals1 r
 cases rx
 have hh:=I.ok.hd hc
 have fin:∀ (h':Heap) (tk:Nat) (ns:List Int),ISet X.prog X.w h' s.heap.objs.size (ledOf X.w) ns->(∀ x,x∈ns↔x∈ms)->ns.length<=ms.length->(∀ b o,s.heap.get? b=some o->h'.get? b=some o)->EP X pins σ Q (.ref s.heap.objs.size) { s with heap:=h',toks:=tk }:=fun h' tk ns S m l k=>
  ⟨.ref s.heap.objs.size,_,I.laid (o:=SetO X.prog X.w s.heap.objs.size ns) k (Nat.le_refl _) ⟨S,(let ⟨o,_,_,_,e,_⟩:=S; ⟨o,e⟩),fun h1 h2 S1 kk=>S1.keeps kk⟩,rfl,q _ ns (I.hok.fresh (Nat.le_refl _)) m l⟩
 rcases hq with hq | hq
 ·obtain ⟨its,rv,pl,_⟩:=I.list hq
  have hi:IntsAre its ms:=zdY rv
  have hl:its.length=ms.length:=by rw [(zao.mp hi).2,List.length_map]
  exact zgG hh (zjQ pl.isList) hi (by rw [List.size_toArray,hl]; exact hb) fin
 ·obtain ⟨its,rv,pl,_⟩:=I.tuple hq
  have hi:IntsAre its ms:=zdY rv
  have hl:its.length=ms.length:=by rw [(zao.mp hi).2,List.length_map]
  exact zgG hh (zji (show s.heap.IsTuple p its.toArray from pl)) hi (by rw [List.size_toArray,hl]; exact hb) fin
noncomputable def rSortSet (P:Program) (w:World):List V->Hp->VK->Prop:=fun xs H Q=>∃ (p:Addr) (ns:List Int),xs=[.ref p] /\ H p=some (SetO P w p ns) /\ ns.length < 64 /\ ∀ (l:Addr) (out:List Int),H l=none->out.Pairwise (· < ·)->(∀ x,x∈out↔x∈ns)->Q (.ref l) (upd H l (.lst (out.map V.int)))
theorem zgK:∀ {vs:List Value} {ns:List Int},IntsAre vs ns->Vals (ns.map V.int) vs
 | _,_,.nil=>.nil
 | _,_,.cons n t h=>.cons ⟨t,rfl⟩ (zgK h)
theorem zlB {prog:Program} {w:World} {h:Heap} {a:Addr} {led:Bool} {ns:List Int} (h:ISet prog w h a led ns):ns.Nodup:=by
 obtain ⟨_,_,_,_,_,_,_,_,_,z,_⟩:=h
 exact z
theorem zfo (hc:X.calm=true):CallR X (.builtin "sorted") (rSortSet X.prog X.w):=by
 intro pins s σ H xs us Q I r h
 obtain ⟨p,ns,rfl,hp,h64,q⟩:=h
 obtain ⟨u,rfl,rx⟩:=vals1 r
 cases rx
 have hS:ISet X.prog X.w s.heap p (ledOf X.w) ns:=(show ObjOk X.prog X.w H s.heap p (SetO X.prog X.w p ns) from I.hok p _ hp).1
 have nd:ns.Nodup:=zlB hS
 refine zc6 (I.ok.hd hc) hS h64 fun D h' tk d' out n ms hD k e hi hperm hsort=>?_
 have hl:ms.length=ns.length:=hperm.length_eq
 have J:=(I.drew d').laid (t':=tk) (o:=.lst (ms.map V.int)) (h':=h') k hD ⟨by rw [List.length_map,sizeLine_eq]; omega,out.toList,n,zgK hi,by simpa using e⟩
 refine ⟨.ref D,_,J,rfl,q D ms (I.hok.fresh hD) ?_ fun x=>hperm.mem_iff⟩
 have nd2:ms.Nodup:=hperm.nodup_iff.mpr nd
 refine (List.Pairwise.and hsort nd2).imp fun {a b} hab=>?_
 have:=hab.1
 have:=hab.2
 omega
end
theorem zni:bootBuiltins "set"=some (.type "set"):=by decide +kernel
theorem zjr:bootBuiltins "sorted"=some (.builtin "sorted"):=by decide +kernel
noncomputable def intsD:List D->Option (List Int)
 | []=>some []
 | .int i :: l=>(intsD l).map (i :: ·)
 | _ :: _=>none
theorem zdB:∀ (ns:List Int),intsD (ns.map .int)=some ns
 | []=>rfl
 | n :: ns=>by rw [List.map_cons,intsD,zdB ns]; rfl
theorem zbU:∀ {l:List D} {ns:List Int},intsD l=some ns->l=ns.map .int
 | [],_,h=>by cases h; rfl
 | d :: l,ns,h=>by
   cases d with
   | int i=>
     rw [intsD] at h
     cases e:intsD l with
     | none=>rw [e] at h; cases h
     | some m=>rw [e] at h; cases h; rw [zbU e]; rfl
   | _=>cases h
noncomputable def dRow:D->Option (List D)
 | .list l=>some l
 | .tuple l=>some l
 | _=>none
noncomputable def gSS (g:DS->Option D):DS->Option (List D):=fun δ=>(g δ).bind fun d=>(dRow d).bind fun l=>(intsD l).bind fun ns=>if ns.length < 64 then some ((ss ns).map .int) else none
theorem HDs.toInts {K:PySem.W.Frag} {H:Hp}:∀ {ns:List Int} {xs:List V},HDs K H xs (ns.map PyData.int)->xs=ns.map V.int
 | [],_,h=>by cases h; rfl
 | n :: ns,_,h=>by
   rw [List.map_cons] at h
   cases h with
   | cons a t=>cases a; rw [HDs.toInts t]; rfl
set_option tactic.hygienic true in
theorem zhj {X:Cx} {O:List Nat} {e:Expr} {ge:DS->Option D} {p1 p2 q1 q2:Pos} (h1:X.mg "sorted"=none) (h2:X.mg "set"=none) (he:PE X e (tSh X.K O ge)) (hc:X.calm=true:=by rfl) (g1:Gl X "sorted":=by rfl) (g2:Gl X "set":=by rfl)
  (s1:starEach [Expr.Call (.Name "set" p2) [e] [] q2] X.env=(false,eval (Expr.Call (.Name "set" p2) [e] [] q2) X.env) :: starEach [] X.env:=by rfl) (s2:starEach [e] X.env=(false,eval e X.env) :: starEach [] X.env:=by rfl)
  (b1:(backTo q1 (starEach [] X.env)).any (·.1)=false:=by rfl) (b2:(backTo q2 (starEach [] X.env)).any (·.1)=false:=by rfl):
  PE X (.Call (.Name "sorted" p1) [.Call (.Name "set" p2) [e] [] q2] [] q1) (tN X.K O (gSS ge)):=
 (zcY (zfo hc) g1 h1 zjr (zab (zdg (zhR hc) g2 h2 zni (zab he za0 s2) (by decide) (by decide) s2 b2) za0 s1) (by decide) (by decide) s1 b1).mono fun σ H Q hh=>hh.e fun U A0 δ ds R ed q=>by
  obtain ⟨d,e1,ed⟩:=bind1 ed
  obtain ⟨l,e2,ed⟩:=bind1 ed
  obtain ⟨ns,e3,ed⟩:=bind1 ed
  split at ed
  ·rename_i h64
   cases ed
   refine ⟨U,A0,δ,d,R,e1,fun v H1 s1 hv=>?_⟩
   have row:∃ p,v=.ref p /\ (SqL X.K H1 p (ns.map V.int) \/ SqT X.K H1 p (ns.map V.int)):=by
    unfold dRow at e2
    split at e2
    ·cases e2
     obtain ⟨p,xs,rfl,r1,r2⟩:=hv.list
     rw [zbU e3] at r2
     rw [<- r2.toInts]
     exact ⟨p,rfl,.inl r1.sq⟩
    ·cases e2
     obtain ⟨p,xs,rfl,r1,r2⟩:=hv.tuple
     rw [zbU e3] at r2
     rw [<- r2.toInts]
     exact ⟨p,rfl,.inr r1⟩
    ·cases e2
   obtain ⟨p,rfl,hrow⟩:=row
   refine ⟨p,ns,rfl,hrow,by unfold scanBound; omega,fun l1 ms hl1 hm hle=>?_⟩
   refine ⟨l1,ms,rfl,zH,by omega,fun l2 out hl2 hr hm2=>?_⟩
   have eo:out=ss ns:=(znW hr fun z=>by rw [hm2,hm]).symm
   subst eo
   refine q l2 _ _ (s1.trans ((z0 hl1 _).trans (z0 hl2 _))) (s1.free ((z0 hl1 _).free hl2)) zH (HDs.ints _)
  ·cases ed
end L2
namespace L2
open PySem PySem.Spec PyProof.Rows
section
variable {prog:Program} {w:World} {A:Around} {R:Result->Shared->Prop} {s:Shared}
theorem zfj {elt target iter:Expr} {ifs:List Expr} {scope:Scope} {pos:Pos} {it acc:Value} {env:Env} (I:Nat->Shared->Prop)
  (turn:∀ n s,I n s->wpAny (model prog w) A (pyNext it) (fun r s₁=>match r with
   | none=>R (.ok .next) s₁
   | some v=>wpAny (model prog w) A (letOwnedTupleGo target it v) (fun _ s₂=>wpAny (model prog w) A (assign target env v) (fun _ s₃=>
     wpAny (model prog w) A (forIn ifs true fun c r=>if r=true then do let ok <- isTrue c env (eval c env); pure (ForInStep.yield ok) else pure (ForInStep.yield r)) (fun ok s₄=>
      if ok=true then wpAny (model prog w) A (eval elt env) (fun x s₅=>
       wpAny (model prog w) A (call (.builtin "list.append") [acc,x]) (fun _ s₆=>∃ m,m < n /\ I m s₆) (notedBy (model prog w) A env fun e s'=>R (.error e) s') s₅) (notedBy (model prog w) A env fun e s'=>R (.error e) s') s₄
      else ∃ m,m < n /\ I m s₄) (notedBy (model prog w) A env fun e s'=>R (.error e) s') s₃) (notedBy (model prog w) A env fun e s'=>R (.error e) s') s₂) (notedBy (model prog w) A env fun e s'=>R (.error e) s') s₁) (notedBy (model prog w) A env fun e s'=>R (.error e) s') s)
  (n:Nat) (h:I n s):codeAny (model prog w) A (.compLoop (.ListComp elt [⟨target,iter,ifs,0⟩] scope pos) 0 it acc env) R s:=by
 refine codeAny_loop rfl I (fun n s hI=>?_) n h
 show wpAny _ A ((compTurn (.ListComp elt [⟨target,iter,ifs,0⟩] scope pos) 0 it acc env).onRaise (fun x=>do noteFrame x env; theTreesLotGoes x)) _ _ s
 refine wpAny_noted ?_
 rw [compTurn_list]
 refine wpAny_bind (wpAny_standAt (wpAny_bind (wpAny_mono (turn n s hI) (fun r s₁ h₁=>?_) fun _ _ z=>z)))
 cases r with
 | none=>exact wpAny_pure h₁
 | some v=>
   refine wpAny_bind (wpAny_mono h₁ (fun _ s₂ h₂=>wpAny_bind (wpAny_mono h₂ (fun _ s₃ h₃=>wpAny_bind (wpAny_mono h₃ (fun ok s₄ h₄=>?_) fun _ _ z=>z)) fun _ _ z=>z)) fun _ _ z=>z)
   cases ok with
   | false=>exact wpAny_pure ⟨rfl,h₄⟩
   | true=>exact wpAny_bind (wpAny_bind (wpAny_mono h₄ (fun x s₅ h₅=>wpAny_bind (wpAny_mono h₅ (fun _ s₆ h₆=>wpAny_pure (wpAny_pure ⟨rfl,h₆⟩)) fun _ _ z=>z)) fun _ _ z=>z))
end
noncomputable def PF (X:Cx) (ifs:List Expr) (t:TT):Prop:=
 ∀ (pins:List (Addr×Obj)) (s:Shared) (σ:St) (H:Hp) (Q:Bool->Hp->Prop),Inv X pins σ H s->t σ H Q->
   wpAny (model X.prog X.w) X.A (forIn ifs true fun c r=>if r=true then do let ok <- isTrue c X.env (eval c X.env); pure (ForInStep.yield ok) else pure (ForInStep.yield r)) (TP X pins σ Q) X.xe s
noncomputable def tYes:TT:=fun _ H Q=>Q true H
theorem znX {X:Cx}:PF X [] tYes:=fun _ _ _ H _ I q=>wpAny_pure ⟨H,I,q⟩
theorem zhL {X:Cx} {c:Expr} {t:TT} (h:PT X c t):PF X [c] t:=fun pins s σ H Q I q=>wpAny_tests_one (h pins s σ H Q I q)
section
variable {X:Cx}
structure CompScL (X:Cx) (scope:Scope) (xs:List Str) (ix:List Nat) (N':List Str):Prop where
 kind:scope.kind=.function
 nocell:∀ y∈scope.names,y.2≠.cell
 names:∀ y∈scope.names,y.2=.local->scope.names.lookup y.1=some .local
 free:∀ y∈scope.names,y.2=.free->X.env.kindOf y.1=some .cell \/ X.env.kindOf y.1=some .free
 only:∀ n,(X.env.scope.kind=.function)->((relabel scope X.env).names.lookup n=some .cell \/ (relabel scope X.env).names.lookup n=some .free)->(n,NameKind.free)∈scope.names
 nm:N'=xs ++ ix.map fun j=>X.N.getD j ""
 ixs:∀ j∈ix,j < X.N.length /\ (X.N.getD j "",NameKind.free)∈scope.names /\ ((relabel scope X.env).names.lookup (X.N.getD j "")=some .cell \/ (relabel scope X.env).names.lookup (X.N.getD j "")=some .free)
section
variable {scope:Scope} {xs:List Str} {ix:List Nat} {N':List Str} {cl:List (Str×Addr)} {C:Addr} {s2 s3:Shared} {H2:Hp} {fp:List Addr} {pins:List (Addr×Obj)} {σ:St}
theorem zkB (S:CompScL X scope xs ix N') (I:Inv X pins σ H2 s2) (hC:s2.heap.objs.size<=C) (h1:∀ n c,cl.lookup n=some c->X.env.cells.lookup n=some c) (h2:∀ n,(n,NameKind.free)∈scope.names->∃ c,cl.lookup n=some c)
  (hf:∀ b∈fp,FpOk X pins H2 b) (hfl:∀ b∈fp,b < s2.heap.objs.size):(compCx X scope N' cl C s2 H2 fp pins).Ok where
 mod:=I.ok.mod
 kind:=by show (relabel scope X.env).kind=_; exact S.kind
 glob:=I.ok.glob
 blt:=I.ok.blt
 above:=hC
 inj:=fun a b c e1 e2=>I.ok.inj a b c (h1 _ _ e1) (h1 _ _ e2)
 has:=fun a h=>h2 a (S.only a I.ok.kind h)
 cab:=fun a c h=>by cases h
 hd:=I.ok.hd
 frames:=I.ok.frames
 stk:=.inl rfl
 exf:=fun b hb=>⟨Nat.ne_of_lt (Nat.lt_of_lt_of_le (hfl b hb) hC),fun a c e=>(hf b hb).2.2.2.2.1 a c (h1 _ _ e)⟩
 bs:=I.bs
 bsz:=Nat.le_trans I.ok.bsz I.sz
 noex:=fun b o e hb=>by
  rcases (hf b hb).2.2.2.1 with z | z
  ·exact I.ok.noex b o e z
  ·have:=(I.ok.bs b o e).1
   exact absurd (Nat.lt_of_lt_of_le (Heap.lt_size this) z) (Nat.lt_irrefl _)
 exfs:=fun b hb z=>by
  rcases List.mem_cons.mp (I.stkSub b z) with e | e
  ·exact (hf b hb).2.1 e
  ·exact (hf b hb).2.2.1 e
 funs:=I.stack
 frf:=I.stkFree
theorem zi0 (S:CompScL X scope xs ix N') (I:Inv X pins σ H2 s2) (hC:s2.heap.objs.size<=C) (h1:∀ n c,cl.lookup n=some c->X.env.cells.lookup n=some c) (h2:∀ n,(n,NameKind.free)∈scope.names->∃ c,cl.lookup n=some c)
  (hf:∀ b∈fp,FpOk X pins H2 b) (hfl:∀ b∈fp,b < s2.heap.objs.size) (hs3:s3.os=s2.os) (hg:s3.gens=s2.gens) (k:∀ b o,s2.heap.get? b=some o->s3.heap.get? b=some o) {m:Str->Option Value} (hn:s3.heap.Ns C m):
  Inv (compCx X scope N' cl C s2 H2 fp pins) [] (List.replicate xs.length none ++ capt ix σ) H2 s3 where
 ok:=zkB S I hC h1 h2 hf hfl
 os:=hs3
 bare:=by rw [hg]; exact I.bare
 base:=⟨fun b o e _ _ _=>k b o e,fun b o e _ _ _=>⟨o.slots,k b o e⟩,fun b o e n _=>n,fun b o e _=>⟨o,k b o e⟩,fun _ _ e=>e,fun _ _ _ e=>e,fun b ps e=>⟨#[],by rw [Array.append_empty]; exact e⟩⟩
 loc:=by
  refine ⟨m,hn,fun i y v e1 e2 e3=>?_⟩
  by_cases hi:i < xs.length
  ·rw [List.getElem?_append_left (by simpa using hi),List.getElem?_replicate,if_pos hi] at e2
   cases e2
  ·have e2':(capt ix σ)[i - xs.length]?=some (some v):=by rw [List.getElem?_append_right (by simp; omega)] at e2; simpa using e2
   obtain ⟨j,ej,es⟩:=zkF e2'
   have e1':N'[i]?=some y:=e1
   rw [S.nm,List.getElem?_append_right (by omega),List.getElem?_map,ej] at e1'
   have ey:X.N.getD j ""=y:=Option.some.inj e1'
   obtain ⟨hj,hfr,hk⟩:=S.ixs j (List.mem_of_getElem? ej)
   obtain ⟨m0,hn0,hl0⟩:=I.loc
   have eN:X.N[j]?=some y:=by rw [<- ey,List.getD_eq_getElem?_getD,List.getElem?_eq_getElem hj]; rfl
   have kd:=S.free _ hfr rfl
   have hv:Vis X.env.scope y:=by
    rw [<- ey]
    rcases kd with z | z
    ·exact .inr (.inl z)
    ·exact .inr (.inr z)
   obtain ⟨u,r,l⟩:=hl0 j y v eN es hv
   refine ⟨u,r,.inr ?_⟩
   rcases l with ⟨q,_⟩ | ⟨_,c,ec,z⟩
   ·have kd':X.env.kindOf y=some .cell \/ X.env.kindOf y=some .free:=by rw [<- ey]; exact kd
    rcases kd' with w | w <;> rw [q] at w <;> cases w
   ·obtain ⟨c',e'⟩:=h2 _ hfr
    rw [ey] at e'
    have:=h1 _ _ e'
    rw [ec] at this; cases this
    obtain ⟨o,ho,hd⟩:=z
    exact ⟨by rw [<- ey]; exact hk,c,e',o,k c o ho,hd⟩
 cell:=fun a c e=>by
  obtain ⟨v,o,ho,hd⟩:=I.cell a c (h1 _ _ e)
  exact ⟨v,o,k c o ho,hd⟩
 free:=I.hok.fresh hC
 freeC:=fun a c e=>I.freeC a c (h1 _ _ e)
 pin:=fun p hp=>by
  have hp':p∈X.pn ++ pins:=by
   rcases List.mem_append.mp hp with z | z
   ·exact z
   ·simp at z
  obtain ⟨e,n,ne,nf,d⟩:=I.pin p hp'
  refine ⟨k _ _ e,n,Nat.ne_of_lt (Nat.lt_of_lt_of_le (Heap.lt_size e) hC),fun z=>?_,d⟩
  rcases List.mem_cons.mp (I.stkSub _ z) with q | q
  ·exact ne q
  ·exact nf q
 hok:=I.hok.kept k
 len:=by
  show (List.replicate xs.length none ++ capt ix σ).length=N'.length
  rw [S.nm]
  unfold capt
  simp
end
noncomputable def cBlockL (J:It) (k:Nat) (ix:List Nat) (g:TG) (tc:TT) (te:TE) (σ:St) (H:Hp) (Q:VK):Prop:=∃ W:Nat->Nat->List V->St->Hp->Prop,(∃ m,W 0 m [] (List.replicate k none ++ capt ix σ) H) /\ ∀ i m ys τ H,W i m ys τ H->ys.length<=sizeLine /\
 ((J.stop i H /\ ∀ p,H p=none->Q (.ref p) (upd H p (.lst ys))) \/ (J.go i H /\ ys.length < sizeLine /\ ∀ v H',J.yld i H v H'->g v τ H' fun τ2 H2=>tc τ2 H2 fun b H3=>
   if b=true then te τ2 H3 fun y H4=>∃ m',m' < m /\ W (i + 1) m' (ys ++ [y]) τ2 H4 else ∃ m',m' < m /\ W (i + 1) m' ys τ2 H3))
noncomputable def tCompL (wi:TI) (k:Nat) (ix:List Nat) (g:TG) (tc:TT) (te:TE):TE:=fun σ H Q=>wi σ H fun J H1=>cBlockL J k ix g tc te σ H1 Q
section
variable {scope:Scope} {xs:List Str} {ix:List Nat} {N':List Str} {elt iter tg:Expr} {ifs:List Expr} {pos:Pos} {wi:TI} {te:TE} {tc:TT} {g:TG}
structure CIn (X':Cx) (D:Addr) (fp:List Addr) (tn:Nat->Heap->Prop) (W:Nat->Nat->List V->St->Hp->Prop) (n:Nat) (s':Shared) (i:Nat) (ys:List V) (its:List Value) (k:Nat) (σ':St) (H':Hp):Prop where
 I:Inv X' [(D,lob its k)] σ' H' s'
 st:tn i s'.heap
 fr:∀ b∈fp,H' b=none
 w:W i n ys σ' H'
 rv:Vals ys its
noncomputable def CInv (X':Cx) (D:Addr) (fp:List Addr) (tn:Nat->Heap->Prop) (W:Nat->Nat->List V->St->Hp->Prop) (n:Nat) (s':Shared):Prop:=∃ i ys its k σ' H',CIn X' D fp tn W n s' i ys its k σ' H'
theorem zob {X':Cx} {D:Addr} {fp:List Addr} {tn:Nat->Heap->Prop} {W:Nat->Nat->List V->St->Hp->Prop} {n:Nat} {s':Shared} {P:Prop} (h:CInv X' D fp tn W n s') (k:∀ i ys its k σ' H',CIn X' D fp tn W n s' i ys its k σ' H'->P):P:=by
 obtain ⟨_,_,_,_,_,_,t⟩:=h
 exact k _ _ _ _ _ _ t
theorem zot {gd:Cx->Prop} {X:Cx} {pins:List (Addr×Obj)} {σ:St} {tg:Expr} {R:It->Hp->Prop} {itv:Value} {s2:Shared} {P:Value->Prop} (h:PIEG gd X pins σ tg R itv s2) (k:∀ it fp tn J H',Inv X pins σ H' s2->TurnG gd X.prog X.w X.K tg J fp it tn->tn 0 s2.heap->(∀ b∈fp,FpOk X pins H' b)->R J H'->P (.ref it)):P itv:=by
 obtain ⟨it,fp,tn,J,H',rfl,a,b,c,d,e⟩:=h
 exact k it fp tn J H' a b c d e
theorem zfr (S:CompScL X scope xs ix N') {gd:Cx->Prop} (hc:∀ cl C s2 H2 fp pins,gd (compCx X scope N' cl C s2 H2 fp pins)) (hg:∀ cl C s2 H2 fp pins,PG (compCx X scope N' cl C s2 H2 fp pins) tg g) (hf:∀ cl C s2 H2 fp pins,PF (compCx X scope N' cl C s2 H2 fp pins) ifs tc) (helt:∀ cl C s2 H2 fp pins,PE (compCx X scope N' cl C s2 H2 fp pins) elt te)
  {pins:List (Addr×Obj)} {σ:St} {s2:Shared} {Q:VK} {itv:Value} (h:PIEG gd X pins σ tg (fun J H1=>cBlockL J xs.length ix g tc te σ H1 Q) itv s2) {cl:List (Str×Addr)} (h1:∀ n c,cl.lookup n=some c->X.env.cells.lookup n=some c) (h2:∀ n,(n,NameKind.free)∈scope.names->∃ c,cl.lookup n=some c)
  {use:Option (Value->Sem Unit)} {QQ:Value->Shared->Prop}
  (fin:∀ (D C:Addr) (H':Hp) (s1:Shared) (m:Str->Option Value),s1.heap.Ns C m->H' C=none->X.s₀.heap.objs.size<=C->C≠X.env.locals->(∀ a c,X.env.cells.lookup a=some c->c≠C)->(∀ p∈X.pn ++ pins,p.1≠C)->(∀ h',Heap.SameBut C s1.heap h'->Inv X pins σ H' { s1 with heap:=h' })->Q (.ref D) H'->
   compPost (model X.prog X.w) X.A X.xe use QQ (.ref D) C (.ok .next) s1):
  wpAny (model X.prog X.w) X.A (newList []) (fun acc s₃=>wpAny (model X.prog X.w) X.A (newFunctionEnv scope X.env.globals cl [] X.env.qual none .none (some X.env)) (fun cenv s₄=>
   codeAny (model X.prog X.w) X.A (.compStart (.ListComp elt [⟨tg,iter,ifs,0⟩] scope pos) 0 itv acc { cenv with scope:=relabel scope X.env }) (compPost (model X.prog X.w) X.A X.xe use QQ acc cenv.locals) s₄) X.xe s₃) X.xe s2:=by
 refine zot (P:=fun itv=>wpAny (model X.prog X.w) X.A (newList []) (fun acc s₃=>wpAny (model X.prog X.w) X.A (newFunctionEnv scope X.env.globals cl [] X.env.qual none .none (some X.env)) (fun cenv s₄=>
   codeAny (model X.prog X.w) X.A (.compStart (.ListComp elt [⟨tg,iter,ifs,0⟩] scope pos) 0 itv acc { cenv with scope:=relabel scope X.env }) (compPost (model X.prog X.w) X.A X.xe use QQ acc cenv.locals) s₄) X.xe s₃) X.xe s2) h fun it fp tn J H1 I2 T st2 f2 hR=>?_
 clear h
 obtain ⟨W,⟨m0,w0⟩,turn⟩:=hR
 have hfl:∀ b∈fp,b < s2.heap.objs.size:=fun b hb=>by
  obtain ⟨o,e,_⟩:=T.obj _ _ st2 b hb
  exact Heap.lt_size e
 refine wpAny_newObj_type (wpAny_newFunctionEnv S.nocell (by intro y hy; simp at hy) (fun h₁ hns₁ hsb₁=>?_) S.kind)
 dsimp only at hns₁ hsb₁ ⊢
 generalize hH2:s2.heap.push { cls:=.type "list",dict:=none,data:=.seq ([]:List Value).toArray }=P2 at hns₁ hsb₁ ⊢
 have hC:P2.objs.size=s2.heap.objs.size + 1:=by rw [<- hH2,Heap.size_push]
 have hDC:s2.heap.objs.size≠P2.objs.size:=by rw [hC]; exact Nat.ne_of_lt (Nat.lt_succ_self _)
 have hCle:s2.heap.objs.size<=P2.objs.size:=by rw [hC]; exact Nat.le_succ _
 have below:∀ b,b < s2.heap.objs.size->b≠P2.objs.size:=fun b hb=>by rw [hC]; exact Nat.ne_of_lt (Nat.lt_succ_of_lt hb)
 have old:∀ b o,s2.heap.get? b=some o->h₁.get? b=some o:=fun b o e=>hsb₁.extBut b o (below b (Heap.lt_size e)) (Heap.get?_push_of_some _ (hH2 ▸ Heap.get?_push_of_some _ e))
 have hacc:h₁.get? s2.heap.objs.size=some (lob [] 0):=hsb₁.extBut _ _ hDC (Heap.get?_push_of_some _ (hH2 ▸ Heap.get?_push_size _ rfl))
 generalize P2.objs.size=C at *
 generalize hDD:s2.heap.objs.size=D at *
 have neP:∀ p∈X.pn ++ pins,p.1≠D /\ p.1≠C:=fun p hp=>by
  have:=Heap.lt_size (I2.pin p hp).1
  rw [hDD] at this
  exact ⟨Nat.ne_of_lt this,Nat.ne_of_lt (Nat.lt_of_lt_of_le this hCle)⟩
 have DnF:D∉fp:=fun hb=>Nat.lt_irrefl _ (hfl D hb)
 have CnF:C∉fp:=fun hb=>absurd (Nat.lt_of_lt_of_le (hfl C hb) hCle) (Nat.lt_irrefl _)
 have cellD:∀ a c,X.env.cells.lookup a=some c->c≠D /\ c≠C:=fun a c e=>by
  obtain ⟨v,q⟩:=I2.cell a c e
  have:=q.lt
  rw [hDD] at this
  exact ⟨Nat.ne_of_lt this,Nat.ne_of_lt (Nat.lt_of_lt_of_le this hCle)⟩
 have locD:X.env.locals < D:=by have:=I2.lt; rw [hDD] at this; exact this
 have s0D:X.s₀.heap.objs.size<=D:=by rw [<- hDD]; exact I2.sz
 have I3:=zi0 (s3:={ s2 with heap:=h₁,toks:=s2.toks + ([]:List (Str×Value)).length }) S I2 (by rw [hDD]; exact hCle) h1 h2 f2 (by rw [hDD]; exact hfl) rfl rfl old hns₁
 have stat:∀ {H':Hp} {pp:List (Addr×Obj)},(∀ p∈pp,p.1∉fp)->(∀ b∈fp,H' b=none)->∀ b∈fp,FpOk (compCx X scope N' cl C s2 H1 fp pins) pp H' b:=fun {H' pp} hpp hn b hb=>by
  obtain ⟨f0,f1,f3,f4,f5,f6⟩:=f2 b hb
  refine ⟨hn b hb,fun z=>CnF (by rw [<- show b=C from z]; exact hb),fun z=>?_,.inl hb,fun a c e=>f5 a c (h1 _ _ e),fun p hp=>?_⟩
  ·rcases List.mem_cons.mp (I2.stkSub b z) with q | q
   ·exact f1 q
   ·exact f3 q
  ·rcases List.mem_append.mp hp with q | q
   ·exact f6 p q
   ·intro z; exact hpp p q (by rw [z]; exact hb)
 have DnS:∀ b,D<=b->b∉frs X.stack:=fun b hb z=>by
  rcases List.mem_cons.mp (I2.stkSub b z) with q | q
  ·rw [q] at hb; exact absurd (Nat.lt_of_lt_of_le locD hb) (Nat.lt_irrefl _)
  ·exact I2.nofs (by rw [hDD]; exact hb) q
 have loop:∀ s₃:Shared,s₃={ s2 with heap:=h₁,toks:=s2.toks + ([]:List (Str×Value)).length }->
   codeAny (model X.prog X.w) X.A (.compLoop (.ListComp elt [⟨tg,iter,ifs,0⟩] scope pos) 0 (.ref it) (.ref D) (compEnvC scope cl C X.env)) (compPost (model X.prog X.w) X.A X.xe use QQ (.ref D) C) s₃:=by
  rintro s₃ rfl
  refine zfj (CInv (compCx X scope N' cl C s2 H1 fp pins) D fp tn W) ?_ m0
   ⟨0,[],[],0,_,H1,?_,T.keep _ _ _ st2 (fun b hb o e=>old b o e),fun b hb=>(f2 b hb).1,w0,.nil⟩
  ·refine fun n s' z=>zob z fun i ys its k σ' H' t=>?_
   have I:=t.I
   have st:=t.st
   have fr:=t.fr
   have rv:=t.rv
   obtain ⟨hz,w⟩:=turn i n ys σ' H' t.w
   have pD:=I.pin (D,lob its k) (List.mem_append_right _ List.mem_cons_self)
   have hpp:∀ p∈[(D,lob its k)],p.1∉fp:=fun p hp=>by
    have e:p=(D,lob its k):=by simpa using hp
    rw [e]; exact DnF
   rcases w with ⟨stop,q⟩ | ⟨go,hz',step⟩
   ·refine wpAny_mono (T.done (compCx X scope N' cl C s2 H1 fp pins) rfl rfl rfl (hc _ _ _ _ _ _) i _ s' _ H' (fun _ _=>False) I (stat hpp fr) st stop) (fun r s1 hr=>?_) fun _ _ z=>z.elim
    obtain ⟨rfl,I1⟩:=hr
    obtain ⟨m,hn,_⟩:=I1.loc
    have p1:=I1.pin (D,lob its k) (List.mem_append_right _ List.mem_cons_self)
    have fC:H' C=none:=I1.free
    refine fin D C (upd H' D (.lst ys)) s1 m hn (by rw [zt (Ne.symm hDC)]; exact fC) (Nat.le_trans s0D hCle) (Nat.ne_of_gt (Nat.lt_of_lt_of_le locD hCle)) (fun a c e=>(cellD a c e).2) (fun p hp=>(neP p hp).2) (fun h' hs=>?_) (q D p1.2.1)
    exact zi4 (N':=N') I2 (by rw [hDD]; exact hCle) (by rw [hDD]; exact Nat.le_refl _) f2 I1 rv hz hs hDC
   ·refine wpAny_mono (T.item (compCx X scope N' cl C s2 H1 fp pins) rfl rfl rfl (hc _ _ _ _ _ _) i _ s' _ H' (fun _ _=>False) I (stat hpp fr) st go) (fun r s4 hr=>?_) fun _ _ z=>z.elim
    obtain ⟨u,rfl,h4⟩:=hr
    refine wpAny_mono h4 (fun _ s5 h5=>?_) fun _ _ z=>z.elim
    obtain ⟨v,H5,I5,r5,y5,st5,fr5⟩:=h5
    have I5':=I5.pinned (stat hpp fr5) (T.obj _ _ st5)
    refine wpAny_mono (hg cl C s2 H1 fp pins _ s5 σ' H5 v u _ I5' r5 (step v H5 y5)) (fun _ s6 h6=>?_) fun _ _ z=>z.elim
    obtain ⟨τ2,H6,I6,q6⟩:=h6
    have gone:∀ {τ:St} {H9:Hp} {s9:Shared},Inv (compCx X scope N' cl C s2 H1 fp pins) ([(D,lob its k)] ++ pinsAt fp s5.heap) τ H9 s9->tn (i + 1) s9.heap /\ ∀ b∈fp,H9 b=none:=fun {τ H9 s9} I9=>
     ⟨T.keep _ _ _ st5 fun b hb o e=>(I9.pin (b,o) (List.mem_append_right _ (List.mem_append_right _ (za6 hb e)))).1,fun b hb=>by
      obtain ⟨o,e,d⟩:=T.obj _ _ st5 b hb
      exact (I9.pin (b,o) (List.mem_append_right _ (List.mem_append_right _ (za6 hb e)))).2.1⟩
    refine wpAny_mono (hf cl C s2 H1 fp pins _ s6 τ2 H6 _ I6 q6) (fun ok s6' h6'=>?_) fun _ _ z=>z.elim
    obtain ⟨H6',I6',q6'⟩:=h6'
    cases ok with
    | false=>
      rw [if_neg Bool.false_ne_true] at q6' ⊢
      obtain ⟨m',hm',w7⟩:=q6'
      obtain ⟨g1,g2⟩:=gone I6'
      exact ⟨m',hm',i + 1,ys,its,k,τ2,H6',I6'.pins_of fun p hp=>I6'.pin p (List.mem_append_right _ (List.mem_append_left _ hp)),g1,g2,w7,rv⟩
    | true=>
    rw [if_pos rfl] at q6' ⊢
    refine wpAny_mono (helt cl C s2 H1 fp pins _ s6' τ2 H6' _ I6' q6') (fun y s7 h7=>?_) fun _ _ z=>z.elim
    obtain ⟨yv,H7,I7,r7,m',hm',w7⟩:=h7
    have p7:=I7.pin (D,lob its k) (List.mem_append_right _ (List.mem_append_left _ List.mem_cons_self))
    have hl:=rv.length
    refine call_meets F.slot_list_append ⟨_,p7.1,rfl⟩ F.entry_list_append (F.args_list_append_2 _ _) (PySem.list_append D its.toArray k y (by rw [List.size_toArray]; omega)) ⟨p7.1,?_⟩
    have q:=PySem.IsL.update p7.1 (·.push y)
    have keepB:∀ b o,b≠D->s7.heap.get? b=some o->(s7.heap.update D (Obj.mapSeq (·.push y))).get? b=some o:=fun b o hb e=>(Heap.get?_update_other s7.heap _ (Ne.symm hb)).trans e
    have I8:Inv (compCx X scope N' cl C s2 H1 fp pins) (pinsAt fp s5.heap) τ2 H7 s7:=I7.pins_of fun p hp=>I7.pin p (List.mem_append_right _ (List.mem_append_right _ hp))
    have I9:Inv (compCx X scope N' cl C s2 H1 fp pins) (pinsAt fp s5.heap) τ2 H7 { s7 with heap:=s7.heap.update D (Obj.mapSeq (·.push y)) }:=I8.turned (t':=s7.toks) (it:=D) keepB p7.2.1 hDC (.inr (by show s2.heap.objs.size<=D; rw [hDD]; exact Nat.le_refl _)) (fun a c e=>(cellD a c (h1 _ _ e)).1) fun p hp z=>by
     rcases List.mem_append.mp hp with z' | z'
     ·exact (neP p z').1 z
     ·exact DnF (by rw [<- z]; exact (zfP z').1)
    refine ⟨m',hm',i + 1,ys ++ [yv],its ++ [y],(if (its.toArray.push y).size == its.toArray.size then k else k + 1),τ2,H7,I9.pins_of (pins':=[(D,lob (its ++ [y]) ((if (its.toArray.push y).size == its.toArray.size then k else k + 1)))]) fun p hp=>?_,T.keep _ _ _ st5 fun b hb o e=>?_,fun b hb=>?_,w7,rv.append (.cons r7 .nil)⟩
    ·have e:p=(D,lob (its ++ [y]) ((if (its.toArray.push y).size == its.toArray.size then k else k + 1))):=by simpa using hp
     subst e
     refine ⟨by rw [q,List.push_toArray],p7.2.1,hDC,DnS D (Nat.le_refl _),fun v z=>by cases z⟩
    ·have pb:=I7.pin (b,o) (List.mem_append_right _ (List.mem_append_right _ (za6 hb e)))
     exact keepB b o (fun z=>DnF (by rw [<- z]; exact hb)) pb.1
    ·obtain ⟨o,e,d⟩:=T.obj _ _ st5 b hb
     exact (I7.pin (b,o) (List.mem_append_right _ (List.mem_append_right _ (za6 hb e)))).2.1
  ·exact I3.pins_of fun p hp=>by
    have e:p=(D,lob [] 0):=by simpa using hp
    subst e
    exact ⟨hacc,I2.hok.fresh (by rw [hDD]; exact Nat.le_refl _),hDC,DnS D (Nat.le_refl _),fun v z=>by cases z⟩
 exact codeAny_compStart_list (loop _ rfl) (T.self _ 0 _ _ _ (T.keep _ _ _ st2 fun b hb o e=>old b o e) (loop _ rfl))
theorem zfT (S:CompScL X scope xs ix N') {gd:Cx->Prop} (hc:∀ cl C s2 H2 fp pins,gd (compCx X scope N' cl C s2 H2 fp pins)) (hi:PIG gd X tg iter wi) (hg:∀ cl C s2 H2 fp pins,PG (compCx X scope N' cl C s2 H2 fp pins) tg g) (hf:∀ cl C s2 H2 fp pins,PF (compCx X scope N' cl C s2 H2 fp pins) ifs tc) (helt:∀ cl C s2 H2 fp pins,PE (compCx X scope N' cl C s2 H2 fp pins) elt te)
  (hs:∀ x,foldedSetIterable iter X.env x=pure x):PE X (.ListComp elt [⟨tg,iter,ifs,0⟩] scope pos) (tCompL wi xs.length ix g tc te):=by
 intro pins s σ H Q I h
 obtain ⟨cl,hcl,h1,h2⟩:=zcw (scope:=scope) (env:=X.env) (fun y hy hk=>I.ok.has y.1 (S.free y hy hk))
 rw [eval_ListComp]
 refine wpAny_comprehension_free (use:=none) rfl hs hcl S.kind S.names (wpAny_mono (hi pins s σ H _ I h) (fun xv s₁ h₁=>wpAny_mono h₁ (fun it s₂ h₂=>?_) fun _ _ e=>e) fun _ _ e=>e)
 exact zfr S hc hg hf helt h₂ h1 h2 fun D C H' s1 m hn fC c1 c2 c3 c4 hI q=>⟨m,hn,fun h' hs'=>⟨.ref D,H',hI h' hs',rfl,q⟩⟩
theorem zi9 {i:Nat} {y:Str} {py spos:Pos} (S:CompScL X scope xs ix N') {gd:Cx->Prop} (hc:∀ cl C s2 H2 fp pins,gd (compCx X scope N' cl C s2 H2 fp pins)) (hi:PIG gd X tg iter wi) (hg:∀ cl C s2 H2 fp pins,PG (compCx X scope N' cl C s2 H2 fp pins) tg g) (hf:∀ cl C s2 H2 fp pins,PF (compCx X scope N' cl C s2 H2 fp pins) ifs tc) (helt:∀ cl C s2 H2 fp pins,PE (compCx X scope N' cl C s2 H2 fp pins) elt te)
  (hs:∀ x,foldedSetIterable iter X.env x=pure x) (hN0:X.N.Nodup) (hi0:X.N[i]?=some y) (hy:X.env.scope.names.lookup y=some .local) (hsw:swapsWith (.ListComp elt [⟨tg,iter,ifs,0⟩] scope pos) (some (.Name y py)) spos.line X.env=pure true):
  PS X (.Assign [.Name y py] (.ListComp elt [⟨tg,iter,ifs,0⟩] scope pos) spos) (tAsg (tCompL wi xs.length ix g tc te) (gName i)):=by
 intro pins s σ H D I h
 obtain ⟨cl,hcl,h1,h2⟩:=zcw (scope:=scope) (env:=X.env) (fun y hy hk=>I.ok.has y.1 (S.free y hy hk))
 rw [exec_Assign_Name_used _ _ _ _ hsw]
 refine wpAny_bind (wpAny_standAt (wpAny_bind ?_))
 show wpAny _ X.A (do let _ <- comprehension (.ListComp elt [⟨tg,iter,ifs,0⟩] scope pos) scope X.env _ (newList []) false (eval iter X.env) (some (assign (.Name y py) X.env))) _ _ s
 refine wpAny_bind (wpAny_mono (wpAny_comprehension_free (use:=some (assign (.Name y py) X.env)) (Q:=fun _ s'=>SP X pins D .next s') rfl hs hcl S.kind S.names
  (wpAny_mono (hi pins s σ H _ I h) (fun xv s₁ h₁=>wpAny_mono h₁ (fun it s₂ h₂=>?_) fun _ _ e=>e) fun _ _ e=>e)) (fun _ s' hq=>wpAny_pure (wpAny_pure hq)) fun _ _ e=>e)
 refine zfr S hc hg hf helt h₂ h1 h2 fun A C H' s1 m hn fC c1 c2 c3 c4 hI q=>?_
 have I1:Inv X pins σ H' s1:=hI s1.heap (.refl ..)
 refine wpAny_assign_Name (zfR I1 hN0 hi0 (.inl hy) (show RelV (.ref A) (.ref A) from rfl) (fun s3 I3 ch=>?_) (.inr hy))
 obtain ⟨a,hs3,ha⟩:=ch
 have hCa:C≠a:=by
  rcases ha with z | z
  ·rw [z]; exact c2
  ·intro e; exact c3 y a z e.symm
 refine ⟨m,hn.sameBut hs3 hCa,fun h' hs'=>?_⟩
 exact ⟨_,H',I3.turned (t':=s3.toks) (it:=C) (fun b o hb e=>(hs'.2 b hb).trans e) fC c2 (.inr c1) c3 c4,q⟩
end
noncomputable def compChkL (sc scope:Scope) (N:List Str) (xs:List Str) (ix:List Nat) (N':List Str):Bool:=
 (scope.kind == .function) && scope.names.all (fun y=> !(y.2 == .cell)) && scope.names.all (fun y=> !(y.2 == .local) || (scope.names.lookup y.1 == some .local))
 && scope.names.all (fun y=> !(y.2 == .free) || (sc.names.lookup y.1 == some .cell || sc.names.lookup y.1 == some .free))
 && (relN sc scope).all (fun y=> !(y.2 == .cell || y.2 == .free) || scope.names.any (fun z=>z.1 == y.1 && z.2 == .free))
 && (N' == xs ++ ix.map fun j=>N.getD j "") && ix.all (fun j=>decide (j < N.length) && scope.names.any (fun z=>z.1 == N.getD j "" && z.2 == .free) && ((relN sc scope).lookup (N.getD j "") == some .cell || (relN sc scope).lookup (N.getD j "") == some .free))
theorem zcx {sc scope:Scope} {N:List Str} {xs:List Str} {ix:List Nat} {N':List Str} (h:compChkL sc scope N xs ix N'=true) (e1:X.env.scope=sc) (e2:X.N=N):CompScL X scope xs ix N':=by
 subst e1 e2
 unfold compChkL at h
 simp only [Bool.and_eq_true,List.all_eq_true,Bool.or_eq_true,Bool.not_eq_true',List.any_eq_true,decide_eq_true_eq,beq_iff_eq,beq_eq_false_iff_ne] at h
 obtain ⟨⟨⟨⟨⟨⟨a1,a2⟩,a3⟩,a5⟩,a6⟩,a7⟩,a8⟩:=h
 refine ⟨a1,a2,fun y hy hk=>(a3 y hy).elim (fun z=>absurd hk z) id,fun y hy hk=>(a5 y hy).elim (fun z=>absurd hk z) id,fun n _ hn=>?_,a7,fun j hj=>?_⟩
 ·have:∃ k,(n,k)∈relN X.env.scope scope /\ (k=NameKind.cell \/ k=NameKind.free):=by
   rcases hn with z | z
   ·exact ⟨_,zct z,.inl rfl⟩
   ·exact ⟨_,zct z,.inr rfl⟩
  obtain ⟨k,hk,hk2⟩:=this
  rcases a6 (n,k) hk with z | ⟨z,hz,e1,e2⟩
  ·exfalso
   simp at z
   rcases hk2 with q | q
   ·exact z.1 q
   ·exact z.2 q
  ·obtain ⟨z1,z2⟩:=z
   cases e1; cases e2; exact hz
 ·obtain ⟨⟨b1,⟨z,hz,e1,e2⟩⟩,b3⟩:=a8 j hj
  refine ⟨b1,?_,b3⟩
  obtain ⟨z1,z2⟩:=z
  cases e2
  have e1':z1=X.N.getD j "":=e1
  rw [<- e1']; exact hz
end
end L2
namespace L2
open PySem PySem.Spec PyProof.Rows LS
noncomputable def fltD (f:D->Option (Option D)):List D->Option (List D)
 | []=>some []
 | d :: ds=>(f d).bind fun o=>(fltD f ds).bind fun xs=>some (match o with | some x=>x :: xs | none=>xs)
noncomputable def gCompL (gi:DS->Option (List D)) (k:Nat) (ix:List Nat) (gt:D->DS->Option DS) (gc:DS->Option Bool) (ge:DS->Option D):DS->Option (List D):=fun δ=>(gi δ).bind fun ds=>if ds.length<=100000 then
 fltD (fun d=>(gt d (List.replicate k none ++ captD ix δ)).bind fun δ1=>(gc δ1).bind fun b=>if b=true then (ge δ1).map some else some none) ds else none
noncomputable def Own (k:Nat) (gt:D->DS->Option DS):Prop:=∀ d c δ1,gt d (List.replicate k none ++ c)=some δ1->∃ own:DS,own.length=k /\ δ1=own ++ c
theorem own1:Own 1 (gName' 0):=fun d c δ1 h=>by cases h; exact ⟨[some d],rfl,rfl⟩
section
variable {K:PySem.W.Frag} {O:List Nat} {U A0:List Addr} {σ:St} {δ:DS} {H H1:Hp}
theorem Rel.weak {own c:DS} (R:Rel K [] U A0 σ (own ++ c) H):Rel K [] U A0 σ (List.replicate own.length none ++ c) H where
 len:=by rw [R.len]; simp
 fz:=fun i e hi q=>by
  by_cases h:i < own.length
  ·rw [List.getElem?_append_left (by simpa using h),List.getElem?_replicate,if_pos h] at q
   cases q
  ·refine R.fz i e hi ?_
   rw [List.getElem?_append_right (by simpa using h)] at q
   rw [List.getElem?_append_right (by omega)]
   simpa using q
 ow:=fun i e hi=>by simp at hi
 inj:=fun i j d e l hi=>by simp at hi
 al:=R.al
theorem Rel.captL (R:Rel K O U A0 σ δ H) {ix:List Nat} (k:Nat) (hix:∀ j∈ix,j∉O):Rel K [] U A0 (List.replicate k none ++ L2.capt ix σ) (List.replicate k none ++ captD ix δ) H where
 len:=by simp [L2.capt,captD]
 fz:=fun i e _ q=>by
  by_cases h:i < k
  ·rw [List.getElem?_append_left (by simpa using h),List.getElem?_replicate,if_pos h] at q
   cases q
  ·rw [List.getElem?_append_right (by simpa using h)] at q ⊢
   simp only [List.length_replicate] at q ⊢
   unfold captD at q
   unfold L2.capt
   rw [List.getElem?_map] at q ⊢
   cases ei:ix[i - k]? with
   | none=>rw [ei] at q; cases q
   | some j=>
     rw [ei] at q
     simp only [Option.map_some,Option.some.injEq] at q
     obtain ⟨u,hu,hd⟩:=R.fz j e (hix j (List.mem_of_getElem? ei)) (zy q)
     exact ⟨u,by simp [hu],hd⟩
 ow:=fun i e hi=>by simp at hi
 inj:=fun i j d e l hi=>by simp at hi
 al:=R.al
structure CB (K:PySem.W.Frag) (U A0:List Addr) (H1:Hp) (ds xs:List D) (F:D->Option (Option D)) (base:DS) (i:Nat) (ys:List V) (τ:St) (H2:Hp) (zs rest:List D):Prop where
 le:i<=ds.length
 s:Same H1 H2
 R:Rel K [] U A0 τ base H2
 yl:ys.length<=i
 hz:HDs K (wo H2 (U ++ A0)) ys zs
 he:fltD F (ds.drop i)=some rest
 hx:zs ++ rest=xs
noncomputable def CBW (K:PySem.W.Frag) (U A0:List Addr) (H1:Hp) (ds xs:List D) (F:D->Option (Option D)) (base:DS) (i m:Nat) (ys:List V) (τ:St) (H2:Hp):Prop:=m=ds.length - i /\ ∃ zs rest,CB K U A0 H1 ds xs F base i ys τ H2 zs rest
theorem ziz {J:It} {ix:List Nat} {k:Nat} {gt:D->DS->Option DS} {gc:DS->Option Bool} {ge:DS->Option D} {ds xs:List D} {Q:VK} (own:Own k gt) (R:Rel K O U A0 σ δ H) (s:Same H H1) (hix:∀ j∈ix,j∉O) (hw:WalksS K (U ++ A0) H1 J ds)
  (hl:ds.length<=100000) (e:fltD (fun d=>(gt d (List.replicate k none ++ captD ix δ)).bind fun δ1=>(gc δ1).bind fun b=>if b=true then (ge δ1).map some else some none) ds=some xs)
  (q:∀ r ys H',Same H H'->H r=none->H' r=some (.lst ys)->HDs K (wo H' (r :: (U ++ A0))) ys xs->Q (.ref r) H'):cBlockL J k ix (tG K [] gt) (tT K [] gc) (tE K [] ge) σ H1 Q:=by
 have big:(100000:Nat) < sizeLine:=by decide
 obtain ⟨F,hF⟩:∃ F:D->Option (Option D),F=fun d=>(gt d (List.replicate k none ++ captD ix δ)).bind fun δ1=>(gc δ1).bind fun b=>if b=true then (ge δ1).map some else some none:=⟨_,rfl⟩
 rw [<- hF] at e
 refine ⟨CBW K U A0 H1 ds xs F (List.replicate k none ++ captD ix δ),⟨ds.length,rfl,[],xs,Nat.zero_le _,Same.refl _,(R.same s).captL k hix,Nat.le_refl _,.nil,e,rfl⟩,?_⟩
 rintro i m ys τ H2 ⟨rfl,zs,rest,w⟩
 have hle:=w.le
 have hyl:=w.yl
 have he:=w.he
 refine ⟨by omega,?_⟩
 obtain ⟨hgo,hstop⟩:=hw i H2 w.s
 by_cases hlt:i < ds.length
 ·obtain ⟨go,hyd⟩:=hgo _ (List.getElem?_eq_getElem hlt)
  rw [List.drop_eq_getElem_cons hlt,fltD] at he
  generalize ds[i]=d at hyd he
  obtain ⟨o,e1,e2⟩:=bind1 he
  obtain ⟨rs,e3,e4⟩:=bind1 e2
  rw [hF] at e1
  obtain ⟨δ1,f1,f2⟩:=bind1 e1
  obtain ⟨b,f3,f4⟩:=bind1 f2
  obtain ⟨own1,ol,oe⟩:=own d _ δ1 f1
  refine .inr ⟨go,by omega,fun v H3 y=>?_⟩
  obtain ⟨s3,hv⟩:=hyd v H3 y
  refine ⟨U,A0,_,d,δ1,w.R.same s3,hv,f1,fun τ2 R3=>⟨U,A0,δ1,b,R3,f3,fun H4 s4=>?_⟩⟩
  have wk:∀ {H':Hp},Same H3 H'->Rel K [] U A0 τ2 (List.replicate k none ++ captD ix δ) H':=fun {H'} s'=>by
   rw [<- ol]
   rw [oe] at R3
   exact (R3.same s').weak
  have lt:ds.length - (i + 1) < ds.length - i:=Nat.sub_lt_sub_left hlt (Nat.lt_succ_self i)
  cases b with
  | true=>
    rw [if_pos rfl] at f4
    dsimp only
    rw [if_pos rfl]
    cases eg:ge δ1 with
    | none=>rw [eg] at f4; cases f4
    | some x=>
      rw [eg] at f4; cases f4
      cases e4
      exact ⟨U,A0,δ1,x,R3.same s4,eg,fun u H5 s5 hu=>⟨_,lt,rfl,zs ++ [x],rs,hlt,((w.s.trans s3).trans s4).trans s5,wk (s4.trans s5),by rw [List.length_append]; exact Nat.succ_le_succ hyl,(w.hz.same (zaK ((s3.trans s4).trans s5))).app (.cons hu .nil),e3,by rw [<- w.hx,List.append_assoc]; rfl⟩⟩
  | false=>
    rw [if_neg Bool.false_ne_true] at f4
    dsimp only
    rw [if_neg Bool.false_ne_true]
    cases f4
    cases e4
    exact ⟨_,lt,rfl,zs,rs,hlt,(w.s.trans s3).trans s4,wk s4,Nat.le_succ_of_le hyl,w.hz.same (zaK (s3.trans s4)),e3,w.hx⟩
 ·have hi:i=ds.length:=Nat.le_antisymm hle (Nat.le_of_not_lt hlt)
  subst hi
  rw [List.drop_length,fltD] at he
  cases he
  have hx:=w.hx
  rw [List.append_nil] at hx
  subst hx
  exact .inl ⟨hstop rfl,fun p hp=>zjC (s.trans w.s) q p ys hp w.hz⟩
end
section
variable {X:Cx} {O:List Nat} {fr:Fr} {scope:Scope} {elt iter tg:Expr} {ifs:List Expr} {pos:Pos} {gi:DS->Option (List D)} {ge:DS->Option D} {gt:D->DS->Option DS} {gc:DS->Option Bool} {k:Nat}
theorem PF.mono {t t':TT} (h:PF X ifs t) (m:∀ σ H Q,t' σ H Q->t σ H Q):PF X ifs t':=fun pins s σ H Q I q=>h pins s σ H Q I (m σ H Q q)
theorem zdf:PF X [] (tT X.K O fun _=>some true):=znX.mono fun σ H Q hh=>hh.e fun U A0 δ b R e q=>by cases e; exact q H (Same.refl H)
set_option tactic.hygienic true in
theorem zef {K:PySem.W.Frag} {ix:List Nat} (own:Own k gt) (hix:∀ j∈ix,j∉O) {σ:St} {H:Hp} {Q:VK}:tN K O (gCompL gi k ix gt gc ge) σ H Q->tCompL (tIc K O gi) k ix (tG K [] gt) (tT K [] gc) (tE K [] ge) σ H Q:=fun ⟨U,A0,δ,xs,R,ed,q⟩=>by
 obtain ⟨ds,e1,e2⟩:=bind1 ed
 split at e2
 ·rename_i hl
  exact ⟨U,A0,δ,ds,R,e1,fun J H1 s hw=>ziz own R s hix hw hl e2 q⟩
 ·cases e2
theorem zbY (sc:Scope) (N:List Str) (ix:List Nat) (N' xs:List Str) (own:Own k gt) (hi:PI X tg iter (tIc X.K O gi)) (hg:∀ cl C s2 H2 fp pins,PG (compCx X scope N' cl C s2 H2 fp pins) tg (tG X.K [] gt)) (hf:∀ cl C s2 H2 fp pins,PF (compCx X scope N' cl C s2 H2 fp pins) ifs (tT X.K [] gc))
  (helt:∀ cl C s2 H2 fp pins,PE (compCx X scope N' cl C s2 H2 fp pins) elt (tE X.K [] ge)) (hix:∀ j∈ix,j∉O:=by decide) (hk:compChkL sc scope N xs ix N'=true:=by decide +kernel) (hl:xs.length=k:=by rfl)
  (e1:X.env.scope=sc:=by rfl) (e2:X.N=N:=by rfl) (hc:X.calm=true:=by rfl) (hs:∀ x,foldedSetIterable iter X.env x=pure x:=by intro _; rfl):PE X (.ListComp elt [⟨tg,iter,ifs,0⟩] scope pos) (tN X.K O (gCompL gi k ix gt gc ge)):=by
 subst hl
 exact (zfT (gd:=calmG) (zcx hk e1 e2) (fun _ _ _ _ _ _=>hc) hi hg hf helt hs).mono fun _ _ _=>zef own hix
theorem zkP {i:Nat} {y:Str} {py spos:Pos} (sc:Scope) (N:List Str) (ix:List Nat) (N' xs:List Str) (hN0:X.N.Nodup) (hi0:X.N[i]?=some y) (hy:X.env.scope.names.lookup y=some .local) (own:Own k gt) (hi:PI X tg iter (tIc X.K O gi))
  (hg:∀ cl C s2 H2 fp pins,PG (compCx X scope N' cl C s2 H2 fp pins) tg (tG X.K [] gt)) (hf:∀ cl C s2 H2 fp pins,PF (compCx X scope N' cl C s2 H2 fp pins) ifs (tT X.K [] gc)) (helt:∀ cl C s2 H2 fp pins,PE (compCx X scope N' cl C s2 H2 fp pins) elt (tE X.K [] ge))
  (hix:∀ j∈ix,j∉O:=by decide) (hk:compChkL sc scope N xs ix N'=true:=by decide +kernel) (hl:xs.length=k:=by rfl)
  (e1:X.env.scope=sc:=by rfl) (e2:X.N=N:=by rfl) (hc:X.calm=true:=by rfl) (hs:∀ x,foldedSetIterable iter X.env x=pure x:=by intro _; rfl) (hsw:swapsWith (.ListComp elt [⟨tg,iter,ifs,0⟩] scope pos) (some (.Name y py)) spos.line X.env=pure true:=by rfl):
  PS X (.Assign [.Name y py] (.ListComp elt [⟨tg,iter,ifs,0⟩] scope pos) spos) (tAsg (tN X.K O (gCompL gi k ix gt gc ge)) (gName i)):=by
 subst hl
 exact (zi9 (gd:=calmG) (zcx hk e1 e2) (fun _ _ _ _ _ _=>hc) hi hg hf helt hs hN0 hi0 hy hsw).mono fun _ _ _ h=>zef own hix h
end
section
variable {X:Cx}
noncomputable def rCatT0 (K:PySem.W.Frag):R2:=fun x y H Q=>∃ a b ys,x=.ref a /\ y=.ref b /\ SqT K H a [] /\ SqT K H b ys /\ Q (.ref b) H
theorem zks:OpR X (binaryOp .Add) (rCatT0 X.K):=by
 intro pins s σ H x y v u Q I rx ry h
 obtain ⟨a,b,ys,rfl,rfl,ha,hb,q⟩:=h
 cases rx
 cases ry
 obtain ⟨its,r1,p1,_⟩:=I.tuple ha
 obtain ⟨its2,r2,p2,_⟩:=I.tuple hb
 have e:=r1.nil_iff.mpr rfl
 subst e
 obtain ⟨⟨c1,d1,dt1,sl1⟩,ho,hc,n,hd⟩:=id p1
 obtain ⟨⟨c2,d2,dt2,sl2⟩,ho2,hc2,n2,hd2⟩:=id p2
 simp only at hc hd hc2 hd2
 subst hc hd hc2 hd2
 exact concat_meets ⟨_,ho,rfl⟩ ⟨_,ho2,rfl⟩ noFill_tuple_add seq_tuple_add PySem.F.slot_tuple_add PySem.F.entry_tuple_add (PySem.F.args_tuple_add_2 _ _) (tuple_addW0 a b #[] its2.toArray n n2 d1 d2 sl1 sl2 (by simp)) ⟨ho,ho2,⟨.ref b,H,I,rfl,q⟩⟩
end
noncomputable def dAddV (a b:D):Option D:=match a,b with
 | .tuple [],.tuple l=>some (.tuple l)
 | a,b=>dAdd a b
theorem zK {X:Cx}:OpR X (binaryOp .Add) (fun x y H Q=>rAddU X.K x y H Q \/ rCatT0 X.K x y H Q):=zmS.or zks
theorem zz {K:PySem.W.Frag}:Imp2 K (fun x y H Q=>rAddU K x y H Q \/ rCatT0 K x y H Q) dAddV:=by
 intro A H x y dx dy d Q al hx hy e q
 unfold dAddV at e
 split at e
 ·cases e
  have hf:=hy.fz
  obtain ⟨a,xs,rfl,h1,h2⟩:=hx.tuple
  obtain ⟨b,zs,rfl,h3,h4⟩:=hy.tuple
  cases h2
  exact .inr ⟨a,b,zs,rfl,rfl,h1,h3,q _ H (Same.refl H) hf⟩
 ·exact .inl (zlS A H x y _ _ d Q al hx hy e q)
noncomputable def IteT (K:PySem.W.Frag) (a:Addr):It:=
 ⟨fun i H=>∃ xs x,SqT K H a xs /\ xs[i]?=some x,fun i H x H'=>∃ p v,H p=none /\ x=.ref p /\ H'=upd H p (.tup [.int i,v]) /\ ∀ xs,SqT K H a xs->xs[i]?=some v,fun i H=>∃ xs,SqT K H a xs /\ xs.length=i⟩
theorem zhi {P:Program} {w:World} {K:PySem.W.Frag} {es:List Expr} {kk} {tpos:Pos} (a e it:Addr) (hne:e≠it):Turn P w K (.Tuple es kk tpos) (IteT K a) [e,it] e (fun i h=>(∃ old,IsEnum h e it i old) /\ h.IsTupleIter it a i) where
 mem:=by simp
 obj:=fun i h st b hb=>by
  obtain ⟨⟨old,he⟩,o,ho,c,d⟩:=st
  rcases List.mem_cons.mp hb with z | z
  ·subst z; exact ⟨_,he,fun v z=>by cases z⟩
  ·have z:b=it:=by simpa using z
   subst z; exact ⟨o,ho,fun v z=>by rw [d] at z; cases z⟩
 keep:=fun i h h' st k=>by
  obtain ⟨⟨old,he⟩,st2⟩:=st
  exact ⟨⟨old,k e (by simp) _ he⟩,st2.at fun o eo=>k it (by simp) o eo⟩
 item:=by
  intro X hP hw hK hc i pins s σ H E I hf st hg
  subst hP hw hK
  obtain ⟨xs,x,hq,hx⟩:=hg
  obtain ⟨its,rv,p,hz⟩:=I.tuple hq
  obtain ⟨u,hu,ru⟩:=rv.get hx
  obtain ⟨⟨old,he⟩,st2⟩:=st
  have hp:s.heap.IsTuple a its.toArray:=p
  have hea:e≠a:=fun z=>by
   obtain ⟨o,ho,hcl,_⟩:=hp
   rw [<- z] at ho
   have:=ho.symm.trans he
   cases this
   exact absurd (Value.type.inj hcl) (by decide)
  have hia:a≠it:=fun z=>by
   obtain ⟨o,ho,hcl,_⟩:=hp
   obtain ⟨o2,ho2,hcl2,_⟩:=st2
   rw [z] at ho
   have:=ho.symm.trans ho2
   cases this
   rw [hcl] at hcl2
   exact absurd (Value.type.inj hcl2) (by decide)
  have hil:i < its.toArray.size:=by
   have:=(List.getElem?_eq_some_iff.mp hu).1
   simpa using this
  refine wpAny_pyNext_enum_itemD (zbA (A:=X.A.in1) (I.ok.hd hc) it a hia its.toArray) he ⟨st2,hp⟩ hil hne (by simp [hne,hea]) fun y h1 tk hy heo hst1 ht1 hz1 hk1=>?_
  have hyu:y=u:=by
   have h3:its.toArray[i]?=some u:=by simpa using hu
   have h4:its.toArray[i]?=some y:=hy
   rw [h3] at h4; cases h4; rfl
  subst hyu
  refine ⟨_,rfl,wpAny_letOwnedTupleGo_enum heo fun h2 he2 hs2=>?_⟩
  replace hs2:Heap.SameBut e h1 h2:=hs2
  have heH:e < s.heap.objs.size:=Heap.lt_size he
  have I1:Inv X pins σ H { s with heap:=h2,toks:=tk + 1 }:=I.turnedL (t':=tk + 1) (ch:=[e,it]) (fun b o hb eo=>by
   simp only [List.mem_cons,List.not_mem_nil,or_false,not_or] at hb
   exact (hs2.2 b hb.1).trans (hk1 b o hb.1 hb.2 eo)) hf
  have ht2:IsTup h2 s.heap.objs.size [Value.int i tk,y].toArray:=⟨_,(hs2.2 _ (Nat.ne_of_gt heH)).trans ht1,rfl,_,rfl⟩
  have hfr:H s.heap.objs.size=none:=I.hok.fresh (Nat.le_refl _)
  have fo:=I.fpOk (H':=H) (Nat.le_refl _) hfr
  have I2:Inv X pins σ (upd H s.heap.objs.size (.tup [.int i,x])) { s with heap:=h2,toks:=tk + 1 }:=I1.trackT hfr (Nat.le_trans I.sz (Nat.le_refl _)) fo.2.1 fo.2.2.2.2.1 fo.2.2.2.2.2 ht2 (.cons ⟨_,rfl⟩ (.cons ru .nil)) (by show 2<=sizeLine; decide)
  refine ⟨.ref s.heap.objs.size,_,I2,rfl,⟨_,x,hfr,rfl,rfl,fun ys hy=>by rw [I.tuple_inj hy hq]; exact hx⟩,⟨⟨y,he2⟩,hst1.1.extBut hs2.extBut (Ne.symm hne)⟩,fun b hb=>?_⟩
  have hlt:b < s.heap.objs.size:=by
   rcases List.mem_cons.mp hb with z | z
   ·subst z; exact heH
   ·have z:b=it:=by simpa using z
    subst z
    obtain ⟨o,ho,_⟩:=st2
    exact Heap.lt_size ho
  rw [zt (Nat.ne_of_lt hlt)]
  exact (hf b hb).1
 done:=by
  intro X hP hw hK hc i pins s σ H E I hf st hg
  subst hP hw hK
  obtain ⟨xs,hq,hx⟩:=hg
  obtain ⟨its,rv,p,hz⟩:=I.tuple hq
  obtain ⟨⟨old,he⟩,st2⟩:=st
  have hp:s.heap.IsTuple a its.toArray:=p
  have hia:a≠it:=fun z=>by
   obtain ⟨o,ho,hcl,_⟩:=hp
   obtain ⟨o2,ho2,hcl2,_⟩:=st2
   rw [z] at ho
   have:=ho.symm.trans ho2
   cases this
   rw [hcl] at hcl2
   exact absurd (Value.type.inj hcl2) (by decide)
  have hl:=rv.length
  have hsz:its.toArray.size=i:=by rw [List.size_toArray,<- hl]; exact hx
  refine wpAny_pyNext_enum_endD (zbA (A:=X.A.in1) (I.ok.hd hc) it a hia its.toArray) he ⟨by rw [hsz]; exact st2,hp⟩ fun h1 eb=>⟨rfl,?_⟩
  exact I.turnedL (t':=s.toks) (ch:=[e,it]) (fun b o hb eo=>eb b o (fun z=>hb (by simp [z])) eo) hf
 self:=fun _ _ _ _ _ st h=>by
  obtain ⟨⟨old,he⟩,_⟩:=st
  exact wpAny_pyIter_enum he h
section
variable {X:Cx} {O:List Nat} {a:Expr} {ge:DS->Option D} {p pos:Pos} {es:List Expr} {kk} {tpos:Pos}
noncomputable def iEnumT (K:PySem.W.Frag) (ta:TA):TI:=fun σ H R=>ta σ H fun vs H1=>∃ a xs,vs=[.ref a] /\ SqT K H1 a xs /\ R (IteT K a) H1
theorem zjO {ta:TA} (hg:Gl X "enumerate") (hm:X.mg "enumerate"=none) (ha:PA X [a] ta) (hs:starEach [a] X.env=[(false,eval a X.env)]:=by rfl):PI X (.Tuple es kk tpos) (.Call (.Name "enumerate" p) [a] [] pos) (iEnumT X.K ta):=by
 intro pins s σ H R I h
 refine Call_ (zcT I hg hm zcP (PyProof.Rows.callWith_type1 (thn (ha pos pins s σ H _ I h) fun us s1 ⟨vs,H1,I1,r1,q1⟩=>?_) hs rfl))
 obtain ⟨b,xs,e,hq,q⟩:=q1
 subst e
 obtain ⟨u,rfl,ru⟩:=vals1 r1
 cases ru
 obtain ⟨its,rv,pl,hz⟩:=I1.tuple hq
 refine zho (show s1.heap.IsTuple b its.toArray from pl) fun h' he hit hsz hk=>?_
 refine wpAny_pyIter_enum he ?_
 refine ⟨s1.heap.objs.size + 1,[s1.heap.objs.size + 1,s1.heap.objs.size],_,_,H1,rfl,I1.kept (t':=s1.toks) hk,zhi b _ s1.heap.objs.size (Nat.succ_ne_self _),⟨⟨_,he⟩,hit⟩,fun b hb=>?_,q⟩
 have hle:s1.heap.objs.size<=b:=by
  simp only [List.mem_cons,List.not_mem_nil,or_false] at hb
  rcases hb with z | z
  ·rw [z]; exact Nat.le_succ _
  ·rw [z]; exact Nat.le_refl _
 exact I1.fpOk hle (I1.hok.fresh hle)
noncomputable def gEnumT (g:DS->Option D):DS->Option (List D):=fun δ=>(g δ).bind fun | .tuple l=>some (enumD l) | _=>none
theorem zkp (hm:X.mg "enumerate"=none) (ha:PE X a (tE X.K O ge)) (hg:Gl X "enumerate":=by rfl) (hs:starEach [a] X.env=[(false,eval a X.env)]:=by rfl) (hs0:starEach ([]:List Expr) X.env=[]:=by rfl):PI X (.Tuple es kk tpos) (.Call (.Name "enumerate" p) [a] [] pos) (tI X.K O (gEnumT ge)):=
 (zjO hg hm (zab ha za0 (by rw [hs,hs0])) hs).mono fun σ H Q hh=>hh.e fun U A0 δ ds R ed q=>by
  obtain ⟨x,e1,e2⟩:=bind1 ed
  cases x with
  | tuple l=>
    cases e2
    refine ⟨U,A0,δ,_,R,e1,fun v H' s h=>?_⟩
    cases h with
    | tup hq h=>
      refine ⟨_,_,rfl,.inl (zah.tupT hq),q _ H' s ?_⟩
      intro A' i H2 s2 al
      have h2:=h.same s2
      have hL:SqT X.K H2 _ _:=.inl (zah.tupT (s2.tupT hq))
      refine ⟨fun d hd=>?_,fun hi=>⟨_,hL,by rw [hi,zjh,h2.len]⟩⟩
      obtain ⟨y,hy,rfl⟩:=zia hd
      obtain ⟨v,hv,hvd⟩:=h2.get hy
      refine ⟨⟨_,v,hL,hv⟩,fun z H3 hz=>?_⟩
      obtain ⟨p,v',hp,rfl,rfl,hv'⟩:=hz
      have:=hv' _ hL
      rw [hv] at this
      cases this
      exact ⟨z0 hp _,HD.newT al hp (.cons (.int _) (.cons hvd .nil))⟩
  | _=>cases e2
end
end L2
namespace L2
open PySem PySem.Spec PyProof.Rows
noncomputable def keyOf1:D->Option Key
 | .int i=>some (.inl i)
 | .str x=>some (.inr x)
 | _=>none
noncomputable def keysOf:List D->Option (List Key)
 | []=>some []
 | d :: ds=>(keyOf1 d).bind fun k=>(keysOf ds).bind fun ks=>some (k :: ks)
noncomputable def keyOf:D->Option (List Key)
 | .tuple ds=>keysOf ds
 | _=>none
theorem zbs:∀ k:List Key,keysOf (k.map keyD)=some k
 | []=>rfl
 | .inl i :: k=>by rw [List.map_cons,keysOf,zbs k]; rfl
 | .inr i :: k=>by rw [List.map_cons,keysOf,zbs k]; rfl
theorem zeY {K:PySem.W.Frag} {H:Hp}:∀ {xs:List V} {ds:List D} {k:List Key},HDs K H xs ds->keysOf ds=some k->xs=k.map kV
 | _,_,_,.nil,e=>by cases e; rfl
 | _,_,_,.cons h t,e=>by
   rw [keysOf] at e
   obtain ⟨a,e1,e2⟩:=bind1 e
   obtain ⟨b,e3,e4⟩:=bind1 e2
   cases e4
   rw [zeY t e3,List.map_cons]
   cases h with
   | int i=>cases e1; rfl
   | str x=>cases e1; rfl
   | _=>cases e1
noncomputable def dLook (kds:List (D×D)) (k:List Key):Option D:=(kds.find? fun p=>decide (keyOf p.1=some k)).map (·.2)
noncomputable def dPutD (kds:List (D×D)) (k:List Key) (d:D):List (D×D):=
 if (kds.any fun p=>decide (keyOf p.1=some k))=true then kds.map (fun p=>if keyOf p.1=some k then (p.1,d) else p) else kds ++ [(.tuple (k.map keyD),d)]
theorem zaz {p:D×D} {r:List (D×D)} {k:List Key} (e:keyOf p.1=some k):dLook (p :: r) k=some p.2:=by simp [dLook,List.find?_cons,e]
theorem zaG {p:D×D} {r:List (D×D)} {k:List Key} (e:¬ keyOf p.1=some k):dLook (p :: r) k=dLook r k:=by simp [dLook,List.find?_cons,e]
theorem zcm (k:List Key):∀ kds:List (D×D),(kds.any fun p=>decide (keyOf p.1=some k))=(dLook kds k).isSome
 | []=>rfl
 | p :: r=>by
   rw [List.any_cons]
   by_cases e:keyOf p.1=some k
   ·simp only [zaz e,decide_eq_true e,Bool.true_or,Option.isSome_some]
   ·rw [zaG e,decide_eq_false e,Bool.false_or]; exact zcm k r
theorem zeZ (k j:List Key) (y:D):∀ kds:List (D×D),dLook (kds.map fun p=>if keyOf p.1=some k then (p.1,y) else p) j=(dLook kds j).map fun x=>if j=k then y else x
 | []=>rfl
 | p :: r=>by
   have ih:=zeZ k j y r
   rw [List.map_cons]
   by_cases h:keyOf p.1=some k
   ·rw [if_pos h]
    by_cases e:keyOf p.1=some j
    ·rw [zaz (p:=(p.1,y)) e,zaz e,Option.map_some,if_pos (Option.some.inj (e.symm.trans h))]
    ·rw [zaG (p:=(p.1,y)) e,zaG e,ih]
   ·rw [if_neg h]
    by_cases e:keyOf p.1=some j
    ·rw [zaz (p:=p) e,zaz e,Option.map_some,if_neg (fun z=>h (by rw [e,z]))]
    ·rw [zaG (p:=p) e,zaG e,ih]
theorem zfL (j:List Key):∀ a b:List (D×D),dLook (a ++ b) j=(dLook a j).or (dLook b j)
 | [],b=>by rw [List.nil_append]; rfl
 | p :: r,b=>by
   rw [List.cons_append]
   by_cases e:keyOf p.1=some j
   ·rw [zaz e,zaz e]; rfl
   ·rw [zaG e,zaG e]; exact zfL j r b
theorem zju (kds:List (D×D)) (k j:List Key) (d:D):dLook (dPutD kds k d) j=if j=k then some d else dLook kds j:=by
 unfold dPutD
 by_cases a:(kds.any fun p=>decide (keyOf p.1=some k))=true
 ·rw [if_pos a,zeZ]
  rw [zcm] at a
  by_cases e:j=k
  ·obtain ⟨x,hx⟩:=Option.isSome_iff_exists.mp a
   rw [if_pos e,e,hx,Option.map_some,if_pos rfl]
  ·rw [if_neg e]
   cases dLook kds j with
   | none=>rfl
   | some x=>rw [Option.map_some,if_neg e]
 ·rw [if_neg a,zfL]
  rw [zcm] at a
  have hk:keyOf (.tuple (k.map keyD))=some k:=zbs k
  by_cases e:j=k
  ·subst e
   have:dLook kds j=none:=by
    cases q:dLook kds j with
    | none=>rfl
    | some x=>rw [q] at a; exact (a rfl).elim
   rw [if_pos rfl,this,zaz hk]; rfl
  ·rw [if_neg e,zaG (by rw [hk]; exact fun z=>e (Option.some.inj z).symm)]
   exact Option.or_none
theorem zfB (kds:List (D×D)) (k:List Key) (d:D):(dPutD kds k d).length<=kds.length + 1:=by
 unfold dPutD
 split
 ·rw [List.length_map]; omega
 ·rw [List.length_append,List.length_cons,List.length_nil]; omega
inductive DK (K:PySem.W.Frag) (H:Hp):List (List Key×V)->List (D×D)->Prop
 | nil:DK K H [] []
 | cons {k:List Key} {v:V} {d:D} {r:List (List Key×V)} {s:List (D×D)}:HD K H v d->DK K H r s->DK K H ((k,v) :: r) ((.tuple (k.map keyD),d) :: s)
section
variable {K:PySem.W.Frag} {H H':Hp} {A:List Addr}
theorem DK.of:∀ {kvs:List (List Key×V)} {kds:List (D×D)},kds.map (·.1)=kvs.map (fun p=>PyData.tuple (p.1.map keyD))->HDs K H (kvs.map (·.2)) (kds.map (·.2))->DK K H kvs kds
 | [],[],_,_=>.nil
 | [],_ :: _,e,_=>by simp at e
 | _ :: _,[],e,_=>by simp at e
 | (k,v) :: r,(x,d) :: s,e,h=>by
   simp only [List.map_cons,List.cons.injEq] at e
   obtain ⟨e1,e2⟩:=e
   subst e1
   cases h with
   | cons h1 h2=>exact .cons h1 (DK.of e2 h2)
theorem DK.keys:∀ {kvs:List (List Key×V)} {kds:List (D×D)},DK K H kvs kds->kds.map (·.1)=kvs.map (fun p=>PyData.tuple (p.1.map keyD))
 | _,_,.nil=>rfl
 | _,_,.cons _ t=>by rw [List.map_cons,List.map_cons,DK.keys t]
theorem DK.vals:∀ {kvs:List (List Key×V)} {kds:List (D×D)},DK K H kvs kds->HDs K H (kvs.map (·.2)) (kds.map (·.2))
 | _,_,.nil=>.nil
 | _,_,.cons h t=>.cons h (DK.vals t)
theorem DK.own {kvs:List (List Key×V)} {kds:List (D×D)} (h:DK K H kvs kds):OwO K H (.dT kvs) (.dict kds):=.dct h.keys h.vals
theorem DK.same {kvs:List (List Key×V)} {kds:List (D×D)} (s:Same H H') (h:DK K H kvs kds):DK K H' kvs kds:=DK.of h.keys (h.vals.same s)
theorem DK.len:∀ {kvs:List (List Key×V)} {kds:List (D×D)},DK K H kvs kds->kvs.length=kds.length
 | _,_,.nil=>rfl
 | _,_,.cons _ t=>by rw [List.length_cons,List.length_cons,DK.len t]
theorem DK.look (k:List Key):∀ {kvs:List (List Key×V)} {kds:List (D×D)},DK K H kvs kds->(∀ d,dLook kds k=some d->∃ v,valV kvs k=some v /\ HD K H v d) /\ (dLook kds k=none->valV kvs k=none)
 | _,_,.nil=>⟨fun d e=>(by cases e),fun _=>rfl⟩
 | _,_,.cons (k:=j) (v:=v) (d:=d) (r:=r) (s:=s) h t=>by
   have hj:keyOf (.tuple (j.map keyD))=some j:=zbs j
   by_cases e:j=k
   ·subst e
    rw [zaz (p:=(PyData.tuple (j.map keyD),d)) hj,zc0 (p:=(j,v)) rfl]
    exact ⟨fun d' q=>by cases q; exact ⟨v,rfl,h⟩,fun q=>by cases q⟩
   ·rw [zaG (p:=(PyData.tuple (j.map keyD),d)) (by rw [hj]; exact fun z=>e (Option.some.inj z)),zc2 (p:=(j,v)) e]
    exact DK.look k t
theorem DK.rep (k:List Key) {v:V} {d:D} (hv:HD K H v d):∀ {kvs:List (List Key×V)} {kds:List (D×D)},DK K H kvs kds->DK K H (kvs.map fun kv=>if kv.1=k then (kv.1,v) else kv) (kds.map fun p=>if keyOf p.1=some k then (p.1,d) else p)
 | _,_,.nil=>.nil
 | _,_,.cons (k:=j) h t=>by
   have hj:keyOf (.tuple (j.map keyD))=some j:=zbs j
   rw [List.map_cons,List.map_cons]
   by_cases e:j=k
   ·subst e
    rw [if_pos rfl,if_pos hj]; exact .cons hv (DK.rep j hv t)
   ·rw [if_neg e,if_neg (by rw [hj]; exact fun z=>e (Option.some.inj z))]; exact .cons h (DK.rep k hv t)
theorem DK.app:∀ {a:List (List Key×V)} {b:List (D×D)} {a':List (List Key×V)} {b':List (D×D)},DK K H a b->DK K H a' b'->DK K H (a ++ a') (b ++ b')
 | _,_,_,_,.nil,q=>q
 | _,_,_,_,.cons h t,q=>.cons h (DK.app t q)
theorem DK.put {kvs:List (List Key×V)} {kds:List (D×D)} (h:DK K H kvs kds) (k:List Key) {v:V} {d:D} (hv:HD K H v d):DK K H (putK kvs k v) (dPutD kds k d):=by
 have e:(kvs.any fun kv=>decide (kv.1=k))=kds.any fun p=>decide (keyOf p.1=some k):=by
  rw [zeE,zcm]
  cases q:dLook kds k with
  | none=>rw [(h.look k).2 q]; rfl
  | some x=>obtain ⟨w,hw,_⟩:=(h.look k).1 x q; rw [hw]; rfl
 unfold putK dPutD
 rw [e]
 split
 ·exact h.rep k hv
 ·exact h.app (.cons hv .nil)
theorem ShD.dk {x:V} {kds:List (D×D)} (h:ShD K A H x (.dict kds)) (hf:fnD kds=false):∃ a kvs,x=.ref a /\ H a=some (.dT kvs) /\ DK K (wo H A) kvs kds:=
 let ⟨a,kvs,e,h1,h2,h3⟩:=h.dict hf; ⟨a,kvs,e,h1,DK.of h2 h3⟩
theorem ShD.key {y:V} {d:D} {k:List Key} (h:ShD K A H y d) (e:keyOf d=some k):∃ b,y=.ref b /\ TupT H b (k.map kV):=by
 cases d with
 | tuple ds=>
   obtain ⟨b,ys,rfl,hb,hd⟩:=h.tupH
   exact ⟨b,rfl,by rw [<- zeY hd e]; exact hb⟩
 | _=>cases e
end
noncomputable def gDget (gd gk:DS->Option D):DS->Option D:=fun δ=>(gd δ).bind fun x=>(gk δ).bind fun y=>match x with
 | .dict kds=>if fnD kds=true then none else (keyOf y).bind fun k=>dLook kds k
 | _=>none
noncomputable def gDgetD (gd gk ge:DS->Option D):DS->Option D:=fun δ=>(gd δ).bind fun x=>(gk δ).bind fun y=>(ge δ).bind fun z=>match x with
 | .dict kds=>if fnD kds=true then none else (keyOf y).bind fun k=>some ((dLook kds k).getD z)
 | _=>none
noncomputable def gSetK (i:Nat) (gk ge:DS->Option D):DS->Option Res:=fun δ=>(ge δ).bind fun d=>(gVar i δ).bind fun x=>(gk δ).bind fun y=>match x with
 | .dict kds=>(keyOf y).bind fun k=>if kds.length < 100000 then some (.nx (δ.set i (some (.dict (dPutD kds k d))))) else none
 | _=>none
noncomputable def gSetD (i:Nat) (g:DS->Option (List (D×D))):DS->Option Res:=fun δ=>(g δ).bind fun d=>some (.nx (δ.set i (some (.dict d))))
noncomputable def gDisp1 (gk ge:DS->Option D):DS->Option (List (D×D)):=fun δ=>(gk δ).bind fun y=>(ge δ).bind fun d=>(keyOf y).bind fun k=>some [(.tuple (k.map keyD),d)]
noncomputable def tNd (K:PySem.W.Frag) (O:List Nat) (g:DS->Option (List (D×D))):TE:=fun σ H Q=>∃ U A0 δ kds,Rel K O U A0 σ δ H /\ g δ=some kds /\
 ∀ r kvs H',Same H H'->H r=none->H' r=some (.dT kvs)->DK K (wo H' (r :: (U ++ A0))) kvs kds->Q (.ref r) H'
section
variable {X:Cx} {O:List Nat} {fr:Fr} {st:Stmt} {gd gk ge:DS->Option D} {gl:DS->Option (List (D×D))} {o i e f value:Expr} {pos apos cpos:Pos}
set_option tactic.hygienic true in
theorem zmm (hu:X.A.units + 1 < cLine) (ho:PE X o (tSh X.K O gd)) (hi:PE X i (tSh X.K O gk)) (hs:NoSl i:=by intro _ _; rfl):PE X (.Subscript o i pos) (tE X.K O (gDget gd gk)):=(zmG hu ho hi hs).mono fun σ H Q hh=>hh.e fun U A0 δ d R ed q=>by
 obtain ⟨x,e1,e2⟩:=bind1 ed
 obtain ⟨y,e3,e4⟩:=bind1 e2
 refine ⟨U,A0,δ,x,R,e1,fun v H1 s1 h1=>⟨U,A0,δ,y,R.same s1,e3,fun v2 H2 s2 h2=>?_⟩⟩
 cases x with
 | dict kds=>
   have e4:(if fnD kds=true then none else (keyOf y).bind fun k=>dLook kds k)=some d:=e4
   split at e4
   ·cases e4
   rename_i hf
   have hf:=Bool.eq_false_iff.mpr hf
   obtain ⟨k,e5,e6⟩:=bind1 e4
   obtain ⟨a,kvs,rfl,ha,dk⟩:=(h1.same s2).dk hf
   obtain ⟨b,rfl,hb⟩:=h2.key e5
   obtain ⟨w,hw,hd⟩:=(dk.look k).1 d e6
   refine ⟨a,w,rfl,?_,q w H2 (s1.trans s2) hd⟩
   rw [<- hw]; exact DGet.t ha hb
 | _=>cases e4
set_option tactic.hygienic true in
theorem zgI (hu:X.A.units + 1 < cLine) (ho:PE X o (tSh X.K O gd)) (hi:PE X e (tSh X.K O gk)) (hx:PE X f (tE X.K O ge)) (m:M2 X o "get" apos e f cpos:=by exact ⟨rfl,rfl,rfl,rfl⟩):PE X (.Call (.Attribute o "get" apos) [e,f] [] cpos) (tE X.K O (gDgetD gd gk ge)):=(zjK hu ho hi hx m).mono fun σ H Q hh=>hh.e fun U A0 δ d R ed q=>by
 obtain ⟨x,e1,e2⟩:=bind1 ed
 obtain ⟨y,e3,e4⟩:=bind1 e2
 obtain ⟨z,e5,e6⟩:=bind1 e4
 refine ⟨U,A0,δ,x,R,e1,fun v H1 s1 h1=>?_⟩
 cases x with
 | dict kds=>
   have e6:(if fnD kds=true then none else (keyOf y).bind fun k=>some ((dLook kds k).getD z))=some d:=e6
   split at e6
   ·cases e6
   rename_i hf
   have hf:=Bool.eq_false_iff.mpr hf
   obtain ⟨k,e7,e8⟩:=bind1 e6
   cases e8
   obtain ⟨a,kvs,rfl,ha,dk⟩:=h1.dk hf
   refine ⟨a,rfl,.inr ⟨_,.inl ha⟩,U,A0,δ,y,R.same s1,e3,fun v2 H2 s2 h2=>⟨U,A0,δ,z,(R.same s1).same s2,e5,fun v3 H3 s3 h3=>?_⟩⟩
   obtain ⟨b,rfl,hb⟩:=(h2.same s3).key e7
   have dk3:=dk.same (zaK (A:=U ++ A0) (s2.trans s3))
   refine ⟨valV kvs k,DGet.t ((s2.trans s3) _ _ ha) hb,q _ H3 (s1.trans (s2.trans s3)) ?_⟩
   cases w:dLook kds k with
   | none=>rw [(dk3.look k).2 w]; exact h3
   | some d'=>obtain ⟨w',hw',hd'⟩:=(dk3.look k).1 d' w; rw [hw']; exact hd'
 | _=>cases e6
set_option tactic.hygienic true in
theorem zmt {i:Nat} (h:PS X st (sDPut (tVar i) (tSh X.K O gk) (tE X.K O ge))) (hi:i∈O:=by decide):PS X st (tS X.K O fr (gSetK i gk ge)):=h.mono fun E σ H hh=>hh.e fun H0 U A0 δ r R F ed P=>by
 obtain ⟨d,e1,e2⟩:=bind1 ed
 obtain ⟨x,e3,e4⟩:=bind1 e2
 obtain ⟨y,e5,e6⟩:=bind1 e4
 obtain ⟨l,o,hl,hU,h1,h2⟩:=R.ow i x hi (zy e3)
 cases h2 with
 | lst _=>cases e6
 | dct kk hv=>
   obtain ⟨k,e7,e8⟩:=bind1 e6
   split at e8
   ·rename_i hz
    cases e8
    refine ⟨U,A0,δ,d,R,e1,fun v H1 s1 hv1=>⟨.ref l,hl,U,A0,δ,y,R.same s1,e5,fun v2 H2 s2 h3=>?_⟩⟩
    obtain ⟨b,rfl,hb⟩:=h3.key e7
    have dk:=DK.of kk hv
    have hlen:=dk.len
    have dk2:=dk.same (zaK (A:=U ++ A0) (s1.trans s2))
    refine ⟨l,_,rfl,DPut.t ((s1.trans s2) _ _ h1) hb (small' (by omega)),?_⟩
    exact P U σ _ ((R.same (s1.trans s2)).putO hi hl hU (dk2.put k (hv1.same (zaK s2))).own ⟨_,zy e3⟩) ((F.grow (s1.trans s2)).put hU _)
   ·cases e8
theorem zmK {i:Nat} (h:PS X st (tAsg (tNd X.K O gl) (gName i))) (hi:i∈O:=by decide):PS X st (tS X.K O fr (gSetD i gl)):=h.mono fun E σ H hh=>hh.e fun H0 U A0 δ r R F ed P=>by
 obtain ⟨d,e1,e2⟩:=bind1 ed
 cases e2
 exact ⟨U,A0,δ,d,R,e1,fun r kvs H' s hr h1 h2=>P (r :: U) _ H' (R.setO s hr h1 h2.own hi) (F.more s hr)⟩
theorem Rel.hideO {K:PySem.W.Frag} {O:List Nat} {U A0:List Addr} {σ:St} {δ:DS} {H H':Hp} (R:Rel K O U A0 σ δ H) (s:Same H H') {r:Addr} {o:HO} (hr:H r=none) (h:H' r=some o) (ho:OwnO o):Rel K O U (r :: A0) σ δ H':=by
 have k:Same (wo H (U ++ A0)) (wo H' (U ++ (r :: A0))):=fun b o q=>by
  obtain ⟨h1,h2⟩:=zb4 q
  rw [zT]
  ·exact s b o h2
  ·simp only [List.mem_append,List.mem_cons,not_or] at h1 ⊢
   exact ⟨h1.1,zu h2 hr,h1.2⟩
 exact {
  len:=R.len
  fz:=fun i d hi e=>let ⟨v,a,b⟩:=R.fz i d hi e; ⟨v,a,b.same k⟩
  ow:=fun i d hi e=>let ⟨l,o,a,c,f,g⟩:=R.ow i d hi e; ⟨l,o,a,c,s _ _ f,g.same k⟩
  inj:=R.inj
  al:=⟨fun a ha=>by
   simp only [List.mem_append,List.mem_cons] at ha
   rcases ha with z | z | z
   ·exact (R.al.same s).1 a (by simp [z])
   ·subst z; exact ⟨_,h,ho⟩
   ·exact (R.al.same s).1 a (by simp [z]),(R.al.same s).2⟩ }
noncomputable def tDisp1 (tk tv:TE):TE:=fun σ H Q=>∀ p,H p=none->tPairs [(tk,tv)] σ (upd H p (.dT [])) fun ps H2=>H2 p=some (.dT []) /\ ∃ b ks y,ps=[(.ref b,y)] /\ TupT H2 b (ks.map kV) /\ Q (.ref p) (upd H2 p (.dT [(ks,y)]))
theorem zj5 {k v:Expr} {tk tv:TE} (hu:X.A.units + 1 < cLine) (hk:PE X k tk) (hv:PE X v tv):PE X (.Dict [some k] [v] pos) (tDisp1 tk tv):=by
 intro pins s σ H Q I q
 have hn:=I.hok.fresh (Nat.le_refl s.heap.objs.size)
 have I1:=I.laid (a:=s.heap.objs.size) (o:=.dT []) (h':=s.heap.push { cls:=.type "dict",data:=.dict #[] }) (t':=s.toks) (fun _ _ q=>Heap.get?_push_of_some _ q) (Nat.le_refl _) (zkd s.heap I.big)
 have pp:PPs X pos [some k] [v] [(tk,tv)]:=zjW hk hv zmc
 refine wpAny_Dict_any rfl rfl (by simp) (by simp) (thn (pp pins _ σ _ _ I1 (q _ hn)) fun ws s2 ⟨ps,H2,I2,rel,e,b,ks,y,e2,e4,q2⟩=>?_)
 subst e2
 cases rel with
 | @cons _ w _ _ h t=>
   cases t
   obtain ⟨u1,u2⟩:=w
   obtain ⟨r1,r2⟩:=h
   cases (show u1=Value.ref b from r1)
   have hf:storeAll s.heap.objs.size [(Value.ref b,u2)]=(do dictSet s.heap.objs.size (Value.ref b) u2):=by
    unfold storeAll
    rw [List.forIn_cons]
    simp
   rw [hf]
   obtain ⟨z,hd,xs,rl,dd⟩:=znB I2.hok e
   cases rl
   refine wpAny_dictSet_heap (show X.A.units < cLine by omega) (zfv I2.hok e4) dd (fun h' dd' hs=>⟨.ref s.heap.objs.size,_,?_,rfl,q2⟩) (Nat.zero_le _)
   obtain ⟨q,es,ep,hq,h2,h3,h4,_,h5⟩:=dd'
   have rel0:KT H2 [] []:=.nil
   refine zgs I2 (by rw [e]; exact True.intro) hs ⟨q,hq⟩ ⟨small (by simp),hd,_,(rel0.put ks e4 r2).keeps fun c ys ec=>?_,q,es,ep,hq,h2,h3,h4,h5⟩
   exact ec.dT e
theorem zkv {k v:Expr} (hu:X.A.units + 1 < cLine) (hk:PE X k (tSh X.K O gk)) (hv:PE X v (tE X.K O ge)):PE X (.Dict [some k] [v] pos) (tNd X.K O (gDisp1 gk ge)):=(zj5 hu hk hv).mono fun σ H Q ⟨U,A0,δ,d,R,ed,q⟩ p hp=>by
 obtain ⟨y,e1,e2⟩:=bind1 ed
 obtain ⟨d',e3,e4⟩:=bind1 e2
 obtain ⟨ks,e5,e6⟩:=bind1 e4
 cases e6
 have s0:=z0 hp (.dT [])
 have R0:Rel X.K O U (p :: A0) σ δ (upd H p (.dT [])):=R.hideO s0 hp zH trivial
 refine ⟨U,p :: A0,δ,y,R0,e1,fun v H1 s1 h1=>⟨U,p :: A0,δ,d',R0.same s1,e3,fun w H2 s2 h2=>?_⟩⟩
 obtain ⟨b,rfl,hb⟩:=(h1.same s2).key e5
 have hH2:H2 p=some (.dT []):=(s1.trans s2) _ _ zH
 refine ⟨hH2,b,ks,w,rfl,hb,q p _ _ (s0.trans (s1.trans s2) |>.upd hp _) hp zH ?_⟩
 have ew:wo (upd H2 p (.dT [(ks,w)])) (p :: (U ++ A0))=wo H2 (p :: (U ++ A0)):=zlh (by simp)
 rw [ew]
 exact .cons (h2.same (zde fun a ha=>by simp only [List.mem_append,List.mem_cons] at ha ⊢; rcases ha with z | z | z; exact .inr (.inl z); exact .inl z; exact .inr (.inr z))) .nil
end
end L2
namespace LS
open PySem PySem.Spec PyProof.Rows
section
variable {prog:Program} {w:World} {A:Around} {E:Value->Shared->Prop} {s:Shared}
theorem newK {T nw:String} {Bn:Builtin} {us:List Value} {kw:List (Str×Value)} {S:PySem.Spec} {Q:Value->Shared->Prop} (ft:TypeCalled T nw "object.__init__") (c1:checkTypeCall T ⟨us,kw⟩=pure ()) (c2:checkBuiltinCall nw ⟨.type T :: us,kw⟩=pure ())
  (en:entryFor table nw=some Bn) (g:Meets (Bn ⟨.type T :: us,kw⟩) S) (c3:∀ o,argsOk "object.__init__" ⟨o :: us,kw⟩) (gi:∀ o,Meets (Builtin.«object.__init__» ⟨o :: us,kw⟩) (fun _ R s=>s.TypeIs o T /\ R (.ok (.ret .none)) s))
  (h:S A.in1 (wants (fun o s1=>s1.TypeIs o T /\ Q o s1) E) s):wpAny (model prog w) A (call (.type T) us kw) Q E s:=by
 obtain ⟨hc,tl,hm⟩:=ft.mro
 have k1:=ft.made
 have k2:=ft.sub
 have k3:=ft.notType
 have k4:=ft.canCreate
 refine wpAny_call (codeAny_of_tree (show wpAny _ _ (callAny (.type T) _) _ _ _ from wpAny_pure ⟨Code.quiet_builtin _ (by decide +kernel),codeAny_builtin F.entry_type_call ?_⟩))
 rw [Around.under_plain (weight_type_call_type T us kw) (units_type_call_type T us kw)]
 repeat any_goals first | assumption | wp_step
 refine codeAny_mono (codeAny_call_builtin ft.plain en (wpAny_of_eq c2 (g prog w A.in1 _ s h))) fun r s1 hr=>?_
 cases r with
 | error e=>exact hr
 | ok fl=>
   cases fl with
   | ret o=>
     obtain ⟨hT,hq⟩:=hr
     have k5:=ft.init.lookup
     have k6:=ft.init.bind o
     repeat any_goals first | assumption | wp_step
     refine codeAny_mono (codeAny_call_builtin ft.init.plain F.entry_object_init (ft.init.check _ _ _ _ _ _ _ _ hT (c3 o) (gi o prog w A.in1 (wants (fun r s2=>r=.none /\ Q o s2) E) s1 ⟨hT,rfl,hq⟩))) fun r2 s2 hr2=>?_
     cases r2 with
     | error e=>exact hr2
     | ok f2=>
       cases f2 with
       | ret r=>
         obtain ⟨rfl,q2⟩:=hr2
         repeat any_goals first | assumption | wp_step
       | _=>exact hr2.elim
   | _=>exact hr.elim
end
theorem initK {T nw:String} {o:Value} {us:List Value} {kw:List (Str×Value)} (hl:typeLookup (.type T) "__init__"=pure (some (.builtin "object.__init__"))) (hm:Bind.madeBy (.type T)=pure (some nw)) (hne:(some nw != some "object.__new__")=true) (u:Value):
  Meets (Builtin.«object.__init__» ⟨o :: u :: us,kw⟩) (fun _ R s=>s.TypeIs o T /\ R (.ok (.ret .none)) s):=by
 refine Meets.of_wp fun prog w A R s hs=>?_
 obtain ⟨hT,hq⟩:=hs
 repeat any_goals first | assumption | wp_step
 exact ⟨_,rfl,hq⟩
theorem tcS (a b:Value):checkTypeCall "enumerate" ⟨[a],[("start",b)]⟩=pure ():=by kernel_rfl
theorem bcS (a b:Value):checkBuiltinCall "enumerate.__new__" ⟨[.type "enumerate",a],[("start",b)]⟩=pure ():=by kernel_rfl
theorem aoS (o a b:Value):argsOk "object.__init__" ⟨[o,a],[("start",b)]⟩:=by kernel_rfl
set_option maxHeartbeats 1000000 in
set_option tactic.hygienic true in
theorem newS (l:Addr) (items:Array Value) (n:Nat) (dct:Option Addr) (sl:Array (Option Value)) (t:Tok):
  Meets (Builtin.«enumerate.__new__» ⟨[.type "enumerate",.ref l],[("start",.int 1 t)]⟩) (fun _ R s=>s.heap.get? l=some { cls:=.type "tuple",dict:=dct,data:=.seq items n,slots:=sl } /\
   R (.ok (.ret (.ref (s.heap.push { cls:=.type "tuple_iterator",data:=.fields #[.ref l,.int 0 0] }).objs.size)))
     { s with heap:=(s.heap.push { cls:=.type "tuple_iterator",data:=.fields #[.ref l,.int 0 0] }).push { cls:=.type "enumerate",data:=.fields #[.none,.bool false,.ref s.heap.objs.size,rawInt 1,.none,.none] } }):=
 .of_wp fun prog w A R s h=>by
  obtain ⟨hp,g,d,tk,os⟩:=s; obtain ⟨hl,h⟩:=h
  have hsub:=sub_enumerate
  have hL:Heap.IsTuple (Shared.heap ⟨hp,g,d,tk,os⟩) l items:=⟨_,hl,rfl,n,rfl⟩
  wp_walk using AutoSeq1.wpAny_loadPart' hl
  refine wpAny_stack_any fun st=>wpAny_pure ?_
  split
  ·rename_i c _ _ _ _ _
   cases (c == Value.type "enumerate")
   ·wp_walk using AutoSeq1.wpAny_loadPart' hl,wpAny_pyIter_tuple hL
    exact ⟨_,rfl,h⟩
   ·wp_walk using AutoSeq1.wpAny_loadPart' hl,wpAny_pyIter_tuple hL
    exact ⟨_,rfl,h⟩
  ·wp_walk using AutoSeq1.wpAny_loadPart' hl,wpAny_pyIter_tuple hL
   exact ⟨_,rfl,h⟩
end LS
namespace LS
open PySem PySem.Spec PyProof.Rows
section
variable {prog:Program} {w:World} {A:Around} {E:Value->Shared->Prop} {s:Shared}
theorem zhq {l:Addr} {items:Array Value} {t:Tok} {Q:Value->Shared->Prop} (hL:s.heap.IsTuple l items)
  (h:∀ h',IsEnum h' (s.heap.objs.size + 1) s.heap.objs.size 1 .none->h'.IsTupleIter s.heap.objs.size l 0->h'.objs.size=s.heap.objs.size + 2->(∀ b o,s.heap.get? b=some o->h'.get? b=some o)->Q (.ref (s.heap.objs.size + 1)) { s with heap:=h' }):
  wpAny (model prog w) A (call (.type "enumerate") [.ref l] [("start",.int 1 t)]) Q E s:=by
 obtain ⟨⟨c,dct,dt,sl⟩,hl,hc,n,hd⟩:=hL
 simp only at hc hd
 subst hc hd
 refine newK PySem.F.called_enumerate (tcS _ _) (bcS _ _) PySem.F.entry_enumerate_new (newS l items n dct sl t) (fun o=>aoS o _ _) (fun o=>initK PySem.F.called_enumerate.init.lookup PySem.F.called_enumerate.made (by decide) _) ⟨hl,?_⟩
 have hz:(s.heap.push { cls:=.type "tuple_iterator",data:=.fields #[.ref l,.int 0 0] }).objs.size=s.heap.objs.size + 1:=Heap.size_push ..
 show _ /\ _
 rw [hz]
 have he:IsEnum ((s.heap.push { cls:=.type "tuple_iterator",data:=.fields #[.ref l,.int 0 0] }).push { cls:=.type "enumerate",data:=.fields #[.none,.bool false,.ref s.heap.objs.size,rawInt 1,.none,.none] }) (s.heap.objs.size + 1) s.heap.objs.size 1 .none:=by
  have q:=Heap.get?_push_size (s.heap.push { cls:=.type "tuple_iterator",data:=.fields #[.ref l,.int 0 0] }) (o:={ cls:=.type "enumerate",data:=.fields #[.none,.bool false,.ref s.heap.objs.size,rawInt 1,.none,.none] }) rfl
  rw [hz] at q; exact q
 exact ⟨⟨_,he,rfl⟩,h _ he ⟨_,Heap.get?_push_of_some _ (Heap.get?_push_size _ rfl),rfl,rfl⟩ (by rw [Heap.size_push,hz]) fun b o x=>Heap.get?_push_of_some _ (Heap.get?_push_of_some _ x)⟩
theorem zgS {it:Addr} {fp:List Addr} {n:Nat} {P:Nat->Value->Prop} {St:Nat->Heap->Prop} (d:Draws prog w A it fp n P St):Draws prog w A it fp (n + 1) (fun i v=>∃ j,i=j + 1 /\ P j v) (fun i h=>∃ j,i=j + 1 /\ St j h) where
 live:=fun _ h ⟨j,_,q⟩=>d.live j h q
 frame:=fun _ h h' ⟨j,e,q⟩ k=>⟨j,e,d.frame j h h' q k⟩
 item:=fun i s Q E hi ⟨j,e,q⟩ hQ=>d.item j s Q E (by omega) q fun x h' tk p st sb=>hQ x h' tk ⟨j,e,p⟩ ⟨j + 1,by omega,st⟩ sb
 done:=fun s Q E ⟨j,e,q⟩ hE=>d.done s Q E ((show j=n by omega) ▸ q) hE
theorem zdG {M:Model} {env:Env} {pos:Pos} {T:String} {e:Expr} {es:List Expr} {kws:List Keyword} {Q:Value->Shared->Prop}
  (h:wpAny M A (spliced (backTo pos (starEach (e :: es) env))) (fun vs s1=>wpAny M A (evalAll ((backToKw pos (keywordEach kws env)).map (·.2))) (fun ks s2=>wpAny M A (call (.type T) vs (((backToKw pos (keywordEach kws env)).filterMap (·.1)).zip ks)) Q E s2) E s1) E s)
  (he:backTo pos (starEach (e :: es) env)=(false,eval e env) :: backTo pos (starEach es env)) (hp:(backTo pos (starEach (e :: es) env)).any (·.1)=false) (ha:(backToKw pos (keywordEach kws env)).all (·.1.isSome)=true) (hk:(backToKw pos (keywordEach kws env)).any (·.1.isNone)=false):
  wpAny M A (callWith pos (.type T) [] (backTo pos (starEach (e :: es) env)) (backToKw pos (keywordEach kws env))) Q E s:=by
 have h1:wpAny M A (evalArgs (.type T) true (backTo pos (starEach (e :: es) env)) (backToKw pos (keywordEach kws env))) (fun a s1=>wpAny M A (call (.type T) a.pos a.kw) Q E s1) E s:=by
  rw [he] at h ⊢
  exact evalArgs_kwB ha h
 unfold callWith
 refine wpAny_bind (wpAny_holding (wpAny_mono h1 (fun a s1 q=>wpAny_bind (wpAny_standAt ?_)) fun _ _ x=>x))
 simp only [hp,hk,Bool.or_false]
 exact wpAny_bind (wpAny_pure (wpAny_bind (wpAny_mono q (fun r s2 hr=>wpAny_bind (wpAny_holding (wpAny_point (wpAny_pure hr)))) fun _ _ x=>x)))
end
end LS
namespace L2
open PySem PySem.Spec PyProof.Rows LS
noncomputable def IteS (K:PySem.W.Frag) (a:Addr):It:=
 ⟨fun i H=>∃ xs x,SqT K H a xs /\ xs[i]?=some x,fun i H x H'=>∃ p v,H p=none /\ x=.ref p /\ H'=upd H p (.tup [.int ((i:Int) + 1),v]) /\ ∀ xs,SqT K H a xs->xs[i]?=some v,fun i H=>∃ xs,SqT K H a xs /\ xs.length=i⟩
theorem zha {P:Program} {w:World} {K:PySem.W.Frag} {es:List Expr} {kk} {tpos:Pos} (a e it:Addr) (hne:e≠it):Turn P w K (.Tuple es kk tpos) (IteS K a) [e,it] e (fun i h=>(∃ old,IsEnum h e it ((i:Int) + 1) old) /\ h.IsTupleIter it a i) where
 mem:=by simp
 obj:=fun i h st b hb=>by
  obtain ⟨⟨old,he⟩,o,ho,c,d⟩:=st
  rcases List.mem_cons.mp hb with z | z
  ·subst z; exact ⟨_,he,fun v z=>by cases z⟩
  ·have z:b=it:=by simpa using z
   subst z; exact ⟨o,ho,fun v z=>by rw [d] at z; cases z⟩
 keep:=fun i h h' st k=>by
  obtain ⟨⟨old,he⟩,st2⟩:=st
  exact ⟨⟨old,k e (by simp) _ he⟩,st2.at fun o eo=>k it (by simp) o eo⟩
 item:=by
  intro X hP hw hK hc i pins s σ H E I hf st hg
  subst hP hw hK
  obtain ⟨xs,x,hq,hx⟩:=hg
  obtain ⟨its,rv,p,hz⟩:=I.tuple hq
  obtain ⟨u,hu,ru⟩:=rv.get hx
  obtain ⟨⟨old,he⟩,st2⟩:=st
  have hp:s.heap.IsTuple a its.toArray:=p
  have hea:e≠a:=fun z=>by
   obtain ⟨o,ho,hcl,_⟩:=hp
   rw [<- z] at ho
   have:=ho.symm.trans he
   cases this
   exact absurd (Value.type.inj hcl) (by decide)
  have hia:a≠it:=fun z=>by
   obtain ⟨o,ho,hcl,_⟩:=hp
   obtain ⟨o2,ho2,hcl2,_⟩:=st2
   rw [z] at ho
   have:=ho.symm.trans ho2
   cases this
   rw [hcl] at hcl2
   exact absurd (Value.type.inj hcl2) (by decide)
  have hil:i < its.toArray.size:=by
   have:=(List.getElem?_eq_some_iff.mp hu).1
   simpa using this
  refine wpAny_pyNext_enum_itemD (i:=i + 1) (LS.zgS (zbA (A:=X.A.in1) (I.ok.hd hc) it a hia its.toArray)) (by push_cast; exact he) ⟨i,rfl,st2,hp⟩ (Nat.succ_lt_succ hil) hne (by simp [hne,hea]) fun y h1 tk hy heo hst1 ht1 hz1 hk1=>?_
  obtain ⟨j,ej,hy⟩:=hy
  obtain ⟨j',ej',hst1⟩:=hst1
  cases ej
  cases ej'
  push_cast at heo ht1
  have hyu:y=u:=by
   have h3:its.toArray[i]?=some u:=by simpa using hu
   have h4:its.toArray[i]?=some y:=hy
   rw [h3] at h4; cases h4; rfl
  subst hyu
  refine ⟨_,rfl,wpAny_letOwnedTupleGo_enum heo fun h2 he2 hs2=>?_⟩
  replace hs2:Heap.SameBut e h1 h2:=hs2
  have heH:e < s.heap.objs.size:=Heap.lt_size he
  have I1:Inv X pins σ H { s with heap:=h2,toks:=tk + 1 }:=I.turnedL (t':=tk + 1) (ch:=[e,it]) (fun b o hb eo=>by
   simp only [List.mem_cons,List.not_mem_nil,or_false,not_or] at hb
   exact (hs2.2 b hb.1).trans (hk1 b o hb.1 hb.2 eo)) hf
  have ht2:IsTup h2 s.heap.objs.size [Value.int ((i:Int) + 1) tk,y].toArray:=⟨_,(hs2.2 _ (Nat.ne_of_gt heH)).trans ht1,rfl,_,rfl⟩
  have hfr:H s.heap.objs.size=none:=I.hok.fresh (Nat.le_refl _)
  have fo:=I.fpOk (H':=H) (Nat.le_refl _) hfr
  have I2:Inv X pins σ (upd H s.heap.objs.size (.tup [.int ((i:Int) + 1),x])) { s with heap:=h2,toks:=tk + 1 }:=I1.trackT hfr (Nat.le_trans I.sz (Nat.le_refl _)) fo.2.1 fo.2.2.2.2.1 fo.2.2.2.2.2 ht2 (.cons ⟨_,rfl⟩ (.cons ru .nil)) (by show 2<=sizeLine; decide)
  refine ⟨.ref s.heap.objs.size,_,I2,rfl,⟨_,x,hfr,rfl,rfl,fun ys hy=>by rw [I.tuple_inj hy hq]; exact hx⟩,⟨⟨y,by push_cast; exact he2⟩,hst1.1.extBut hs2.extBut (Ne.symm hne)⟩,fun b hb=>?_⟩
  have hlt:b < s.heap.objs.size:=by
   rcases List.mem_cons.mp hb with z | z
   ·subst z; exact heH
   ·have z:b=it:=by simpa using z
    subst z
    obtain ⟨o,ho,_⟩:=st2
    exact Heap.lt_size ho
  rw [zt (Nat.ne_of_lt hlt)]
  exact (hf b hb).1
 done:=by
  intro X hP hw hK hc i pins s σ H E I hf st hg
  subst hP hw hK
  obtain ⟨xs,hq,hx⟩:=hg
  obtain ⟨its,rv,p,hz⟩:=I.tuple hq
  obtain ⟨⟨old,he⟩,st2⟩:=st
  have hp:s.heap.IsTuple a its.toArray:=p
  have hia:a≠it:=fun z=>by
   obtain ⟨o,ho,hcl,_⟩:=hp
   obtain ⟨o2,ho2,hcl2,_⟩:=st2
   rw [z] at ho
   have:=ho.symm.trans ho2
   cases this
   rw [hcl] at hcl2
   exact absurd (Value.type.inj hcl2) (by decide)
  have hl:=rv.length
  have hsz:its.toArray.size=i:=by rw [List.size_toArray,<- hl]; exact hx
  refine wpAny_pyNext_enum_endD (LS.zgS (zbA (A:=X.A.in1) (I.ok.hd hc) it a hia its.toArray)) he ⟨_,rfl,by rw [hsz]; exact st2,hp⟩ fun h1 eb=>⟨rfl,?_⟩
  exact I.turnedL (t':=s.toks) (ch:=[e,it]) (fun b o hb eo=>eb b o (fun z=>hb (by simp [z])) eo) hf
 self:=fun _ _ _ _ _ st h=>by
  obtain ⟨⟨old,he⟩,_⟩:=st
  exact wpAny_pyIter_enum he h
section
variable {X:Cx} {O:List Nat} {a:Expr} {ge:DS->Option D} {p pos:Pos} {es:List Expr} {kk} {tpos:Pos}
noncomputable def iEnumS (K:PySem.W.Frag) (ta:TA):TI:=fun σ H R=>ta σ H fun vs H1=>∃ a xs,vs=[.ref a] /\ SqT K H1 a xs /\ R (IteS K a) H1
theorem zj1 {ta:TA} {jj} {cp kp:Pos} (hg:Gl X "enumerate") (hm:X.mg "enumerate"=none) (ha:PA X [a] ta) (hs:starEach [a] X.env=[(false,eval a X.env)]:=by rfl):PI X (.Tuple es kk tpos) (.Call (.Name "enumerate" p) [a] [⟨some "start",.Constant (.int 1) jj cp,kp⟩] pos) (iEnumS X.K ta):=by
 intro pins s σ H R I h
 refine wpAny_Call_Name_kw (zcT I hg hm zcP (LS.zdG (thn (ha pos pins s σ H _ I h) fun us s1 ⟨vs,H1,I1,r1,q1⟩=>?_) (by rw [hs]; rfl) (by rw [hs]; rfl) rfl rfl))
 obtain ⟨b,xs,e,hq,q⟩:=q1
 subst e
 obtain ⟨u,rfl,ru⟩:=vals1 r1
 cases ru
 refine PyProof.Rows.evalAll_cons (wpAny_bind (thn (zf pins s1 σ H1 (fun v H2=>v=V.int 1 /\ H2=H1) I1 ⟨rfl,rfl⟩) fun kv s2 ⟨v,H2,I2,rv2,e1,e2⟩=>wpAny_bind (wpAny_standAt (wpAny_pure (PyProof.Rows.evalAll_nil ?_)))))
 subst e1 e2
 obtain ⟨t,rfl⟩:=rv2
 obtain ⟨its,rv,pl,hz⟩:=I2.tuple hq
 refine LS.zhq (show s2.heap.IsTuple b its.toArray from pl) fun h' he hit hsz hk=>?_
 refine wpAny_pyIter_enum he ?_
 refine ⟨s2.heap.objs.size + 1,[s2.heap.objs.size + 1,s2.heap.objs.size],_,_,H2,rfl,I2.kept (t':=s2.toks) hk,zha b _ s2.heap.objs.size (Nat.succ_ne_self _),⟨⟨_,he⟩,hit⟩,fun b hb=>?_,q⟩
 have hle:s2.heap.objs.size<=b:=by
  simp only [List.mem_cons,List.not_mem_nil,or_false] at hb
  rcases hb with z | z
  ·rw [z]; exact Nat.le_succ _
  ·rw [z]; exact Nat.le_refl _
 exact I2.fpOk hle (I2.hok.fresh hle)
noncomputable def enumS (l:List D):List D:=(l.zipIdx 1).map fun p=>.tuple [.int (p.2:Nat),p.1]
theorem zhK (l:List D):(enumS l).length=l.length:=by unfold enumS; simp
theorem zjb {l:List D} {i:Nat} {d:D} (h:(enumS l)[i]?=some d):∃ x,l[i]?=some x /\ d=.tuple [.int ((i:Int) + 1),x]:=by
 unfold enumS at h
 rw [List.getElem?_map,List.getElem?_zipIdx] at h
 cases e:l[i]? with
 | none=>rw [e] at h; cases h
 | some x=>
   rw [e] at h
   simp only [Option.map_some,Option.some.injEq] at h
   refine ⟨x,rfl,?_⟩
   rw [<- h]
   push_cast
   rw [Int.add_comm]
noncomputable def gEnumS (g:DS->Option D):DS->Option (List D):=fun δ=>(g δ).bind fun | .tuple l=>some (enumS l) | _=>none
theorem zj6 {jj} {cp kp:Pos} (hm:X.mg "enumerate"=none) (ha:PE X a (tE X.K O ge)) (hg:Gl X "enumerate":=by rfl) (hs:starEach [a] X.env=[(false,eval a X.env)]:=by rfl) (hs0:starEach ([]:List Expr) X.env=[]:=by rfl):PI X (.Tuple es kk tpos) (.Call (.Name "enumerate" p) [a] [⟨some "start",.Constant (.int 1) jj cp,kp⟩] pos) (tI X.K O (gEnumS ge)):=
 (zj1 hg hm (zab ha za0 (by rw [hs,hs0])) hs).mono fun σ H Q hh=>hh.e fun U A0 δ ds R ed q=>by
  obtain ⟨x,e1,e2⟩:=bind1 ed
  cases x with
  | tuple l=>
    cases e2
    refine ⟨U,A0,δ,_,R,e1,fun v H' s h=>?_⟩
    cases h with
    | tup hq h=>
      refine ⟨_,_,rfl,.inl (zah.tupT hq),q _ H' s ?_⟩
      intro A' i H2 s2 al
      have h2:=h.same s2
      have hL:SqT X.K H2 _ _:=.inl (zah.tupT (s2.tupT hq))
      refine ⟨fun d hd=>?_,fun hi=>⟨_,hL,by rw [hi,zhK,h2.len]⟩⟩
      obtain ⟨y,hy,rfl⟩:=zjb hd
      obtain ⟨v,hv,hvd⟩:=h2.get hy
      refine ⟨⟨_,v,hL,hv⟩,fun z H3 hz=>?_⟩
      obtain ⟨p,v',hp,rfl,rfl,hv'⟩:=hz
      have:=hv' _ hL
      rw [hv] at this
      cases this
      exact ⟨z0 hp _,HD.newT al hp (.cons (.int _) (.cons hvd .nil))⟩
  | _=>cases e2
end
end L2
namespace L2
open PySem PySem.Spec PyProof.Rows LS
section
variable {X:Cx} {O:List Nat} {a b:Expr} {ga gb:DS->Option D} {p pos:Pos} {es:List Expr} {kk} {tpos:Pos}
end
end L2
namespace L2
open PySem PySem.Spec PyProof.Rows
section
variable {X:Cx} {O:List Nat} {e:Expr}
theorem zeh {p:Addr} {xs:List V} {ds:List D} (h:PE X e (tC (.ref p))) (m:(p,xs)∈cstTab) (hd:∀ H,HDs X.K H xs ds):PE X e (tE X.K O (gC (.tuple ds))):=h.mono fun σ H Q hh=>hh.e fun U A0 δ d R ed q=>by
 cases ed
 exact q (.ref p) H (Same.refl H) (.tup (zlZ (R.al.2.1 p xs m) R.al) (hd _))
end
theorem zk9:∀ {l:List (Addr×List V)} {p:Addr} {xs:List V},l.lookup p=some xs->(p,xs)∈l
 | [],_,_,h=>by cases h
 | (q,ys) :: l,p,xs,h=>by
   rw [List.lookup_cons] at h
   by_cases e:p=q
   ·subst e
    rw [beq_self_eq_true] at h
    cases h
    exact List.mem_cons_self
   ·rw [show (p == q)=false by simpa using e] at h
    exact List.mem_cons_of_mem _ (zk9 h)
noncomputable def offC (K0:PySem.W.Frag):PySem.W.Frag:=K0.filter fun q=>(cstTab.lookup q.1).isNone
theorem zbw (b:Addr):∀ K0:PySem.W.Frag,(offC K0).lookup b=if (cstTab.lookup b).isNone=true then K0.lookup b else none
 | []=>by simp [offC]
 | (c,o) :: r=>by
   have ih:=zbw b r
   unfold offC at ih ⊢
   rw [List.filter_cons]
   by_cases e:b=c
   ·subst e
    by_cases q:(cstTab.lookup b).isNone=true
    ·rw [if_pos q,if_pos q,List.lookup_cons,List.lookup_cons]; simp
    ·rw [if_neg q,if_neg q]; rw [if_neg q] at ih; exact ih
   ·have e':(b == c)=false:=by simpa using e
    rw [List.lookup_cons,e']
    by_cases q:(cstTab.lookup c).isNone=true
    ·rw [if_pos q,List.lookup_cons,e']; exact ih
    ·rw [if_neg q]; exact ih
structure CstOk (K0:PySem.W.Frag):Prop where
 one:∀ p xs,(p,xs)∈cstTab->cstTab.lookup p=some xs
 tup:∀ p xs,cstTab.lookup p=some xs->∃ (od:Option Addr) (its:Array Value) (n:Nat) (sl:Array (Option Value)),K0.lookup p=some ⟨.type "tuple",od,.seq its n,sl⟩ /\ xs.length<=sizeLine /\ Vals xs its.toList
theorem CstOk.look {K0:PySem.W.Frag} (C:CstOk K0) {b:Addr} {o:Obj} (h:K0.lookup b=some o) (n:∀ its n,o.data≠.seq its n):(offC K0).lookup b=some o:=by
 rw [zbw]
 cases q:cstTab.lookup b with
 | none=>exact h
 | some xs=>
   obtain ⟨od,its,k,sl,e,_⟩:=C.tup b xs q
   rw [h] at e; cases e
   exact absurd rfl (n its k)
theorem CstOk.func {K0:PySem.W.Frag} (C:CstOk K0) {x qual:Str} {st:Stmt} {f:Addr} {fd:FuncData} (F:Fun K0 x qual st f fd):Fun (offC K0) x qual st f fd:=by
 obtain ⟨⟨oc,od,kV,doc,pm,an,cdv,ct,osl,e1,e2,e3⟩,kp⟩:=F
 have e2':=C.look e2 (fun its n z=>by cases z)
 refine ⟨⟨oc,od,kV,doc,pm,an,cdv,ct,osl,e1,e2',?_⟩,?_⟩
 ·unfold PySem.W.codeIn at e3 ⊢
  cases cdv with
  | ref c=>
    simp only at e3 ⊢
    cases q:K0.lookup c with
    | none=>rw [q] at e3; exact absurd e3 (by simp)
    | some ob=>
      obtain ⟨c1,c2,dt,c4⟩:=ob
      rw [q] at e3
      cases dt with
      | fields vs=>rw [C.look q (fun its n z=>by cases z)]; exact e3
      | _=>exact absurd e3 (by simp)
  | _=>exact e3
 ·unfold PySem.W.keepIn
  simp only [e2']
noncomputable def Hc (K0:PySem.W.Frag):Hp:=fun b=>match cstTab.lookup b with
 | some xs=>(K0.lookup b).map fun ob=>HO.frz ob (.tup xs)
 | none=>none
end L2
namespace L2
open PySem PySem.Spec PyProof.Rows
section
variable {X:Cx}
end
end L2
namespace L2
open PySem PySem.Spec PyProof.Rows
set_option tactic.hygienic true in
theorem zmr (gi:DS->Option (List D)) (ix:List Nat) (ge:DS->Option D):gComp gi ix ge=gCompL gi 1 ix (gName' 0) (fun _=>some true) ge:=by
 funext δ
 unfold gComp gCompL
 cases gi δ with
 | none=>rfl
 | some ds=>
   rw [Option.bind_some,Option.bind_some]
   split
   ·induction ds with
    | nil=>rfl
    | cons d ds ih=>
      rename_i h
      rw [mapD,fltD,ih (by rw [List.length_cons] at h; omega)]
      show _=Option.bind (Option.map some (ge (some d :: captD ix δ))) _
      cases ge (some d :: captD ix δ) <;> rfl
   ·rfl
section
variable {X:Cx} {O:List Nat} {gi:DS->Option (List D)} {ix:List Nat} {ge:DS->Option D}
theorem PE.asC {e:Expr} (h:PE X e (tN X.K O (gCompL gi 1 ix (gName' 0) (fun _=>some true) ge))):PE X e (tN X.K O (gComp gi ix ge)):=by rw [zmr]; exact h
end
end L2
namespace L2
open PySem PySem.Spec PyProof.Rows PySem.Calls
set_option maxRecDepth 100000
section
variable {prog:Program} {w:World} {A:Around} {E:Value->Shared->Prop} {s:Shared}
end
section
variable {X:Cx} {O:List Nat} {a:Expr} {ge:DS->Option D} {p1 p2 q1 q2:Pos} {ta:TA}
end
end L2
namespace L2
open PySem PySem.Spec PyProof.Rows
noncomputable def cxCl (CX:CXT) (P:Program) (w:World) (K:PySem.W.Frag) (mg:Str->Option Value) (base:Heap) (N:List Str) (qual:Str) (scope:Scope) (f:Addr) (cd:Value) (cl:List (Str×Addr)) (A:Around) (outer:List Env) (s:Shared) (H:Hp) (E:XK):Cx where
 prog:=P
 w:=w
 K:=K
 mg:=mg
 base:=base
 A:=A.deeper (PySem.W.envX qual scope s.heap.objs.size f cd cl)
 N:=N
 s₀:=s
 H₀:=H
 env:=PySem.W.envX qual scope s.heap.objs.size f cd cl
 outer:=outer
 stack:=PySem.W.envX qual scope s.heap.objs.size f cd cl :: outer
 ex:=[]
 calm:=true
 fn:=fun _=>false
 pn:=[]
 xe:=fun e s'=>wpAny (model P w) (A.deeper (PySem.W.envX qual scope s.heap.objs.size f cd cl)) (leaving (PySem.W.envX qual scope s.heap.objs.size f cd cl) e) (fun _ s''=>CX outer H s E e s'') (fun e' s''=>CX outer H s E e' s'') s'
structure ClScope (ps fv:List Str) (sc:Scope) (cl:List (Str×Addr)):Prop where
 kind:sc.kind=.function
 co:sc.isCoroutine=false
 gen:sc.isGenerator=false
 nocell:∀ y∈sc.names,y.2≠.cell
 nd:(ps ++ fv).Nodup
 par:∀ x∈ps,sc.names.lookup x=some .local
 fr:∀ x∈fv,sc.names.lookup x=some .free
 only:∀ x,sc.names.lookup x=some .free->∃ c,cl.lookup x=some c
 inj:∀ x y c,cl.lookup x=some c->cl.lookup y=some c->x=y
theorem zgY {y:Str} {u:Value}:∀ {l:List (Str×Value)},(l.map (·.1)).Nodup->(y,u)∈l->l.lookup y=some u
 | (z,w) :: l,nd,h=>by
   rw [List.map_cons,List.nodup_cons] at nd
   rcases List.mem_cons.mp h with e | e
   ·cases e; rw [List.lookup_cons]; simp
   ·have hne:(y == z)=false:=by
     cases q:y == z with
     | false=>rfl
     | true=>rw [<- eq_of_beq q] at nd; exact absurd (List.mem_map.mpr ⟨_,e,rfl⟩) nd.1
    rw [List.lookup_cons,hne]
    exact zgY nd.2 e
theorem zdA:∀ (ps:List Str) (us:List Value),((ps.zip us).map (·.1)).Sublist ps
 | [],_=>by simp
 | p :: ps,[]=>by simp
 | p :: ps,u :: us=>by rw [List.zip_cons_cons,List.map_cons]; exact (zdA ps us).cons₂ p
theorem zku {ps:List Str} {us:List Value} {i:Nat} {y:Str} {u:Value} (nd:ps.Nodup) (h1:ps[i]?=some y) (h2:us[i]?=some u):(ps.zip us).reverse.lookup y=some u:=by
 refine zgY ?_ (List.mem_reverse.mpr ?_)
 ·rw [List.map_reverse]
  refine List.pairwise_reverse.mpr (List.Pairwise.imp (fun h=>Ne.symm h) ?_)
  exact nd.sublist (zdA ps us)
 ·exact List.mem_of_getElem? (i:=i) (by rw [List.getElem?_zip_eq_some]; exact ⟨h1,h2⟩)
theorem zon {P:Program} {w:World} {K:PySem.W.Frag} {mg:Str->Option Value} {base:Heap} {k:Nat} {f c':Addr} {name qual:Str} {params:Arguments} {body:Expr} {scope:Scope} {cl:List (Str×Addr)} {pm ctv:Value} {ps fv:List Str} {cvs:List V} {sp:Sp}
  (hf:base.get? f=some (PySem.W.kla_obj name qual params body scope cl pm c' ctv)) (S:ClScope ps fv scope cl) (hcv:cvs.length=fv.length)
  (cells:∀ (i:Nat) (x:Str) (v:V),fv[i]?=some x->cvs[i]?=some v->∃ c u,cl.lookup x=some c /\ base.IsCell c (some u) /\ RelV v u)
  (allc:∀ x c,cl.lookup x=some c->∃ v,base.IsCell c v)
  (len:∀ vs H Q E,sp vs H Q E->vs.length=ps.length) (code:∀ vs H Q E,sp vs H Q E->H c'=some (.code qual))
  (hbody:∀ (A:Around) (outer:List Env) (s:Shared) (H:Hp) (vs:List V) (Q:VK) (E:XK),Room k (A.deeper (PySem.W.envX qual scope s.heap.objs.size f (.ref c') cl))->sp vs H Q E->
   ∃ t,PE (cxCl CX0 P w K mg base (ps ++ fv) qual scope f (.ref c') cl A outer s H E) body t /\ t ((vs ++ cvs).map some) H Q):
  FnOk P w K mg base CX0 (k + 1) f (PySem.W.kla_fn name qual params body scope cl pm (.ref c') ctv) ps sp:=by
 refine ⟨len,fun A outer s H args us vs Q E hr e0 hb r hsp=>?_⟩
 have hl:=len _ _ _ _ hsp
 have lim:s.heap.NoLimit:=e0.mod.nolimit.keeps fun b o e=>(e0.bs b o e).1
 have hcr:s.heap.CodeRec (.ref c') qual:=e0.hok c' _ (code _ _ _ _ hsp)
 refine PySem.W.kla_callFunE hr.depth (e0.bs f _ hf).1 rfl S.co S.gen rfl hcr (hb _ _ _ _ ?_)
 refine wpAny_newFunctionEnv S.nocell (fun y hy=>S.par y.1 (List.of_mem_zip hy).1) (fun h' ns sb=>?_) S.kind
 have kp:∀ b o,s.heap.get? b=some o->h'.get? b=some o:=fun b o e=>(sb.2 b (Nat.ne_of_lt (Heap.lt_size e))).trans (Heap.get?_push_of_some _ e)
 refine ⟨lim.keeps kp,PySem.W.kla_codeExpr ?_⟩
 obtain ⟨t,ht,hq⟩:=hbody A outer s H vs Q E (hr.deeper _) hsp
 have hls:us.length=ps.length:=by rw [<- r.length]; exact hl
 have I:Inv (cxCl CX0 P w K mg base (ps ++ fv) qual scope f (.ref c') cl A outer s H E) [] ((vs ++ cvs).map some) H { s with heap:=h',toks:=s.toks + (ps.zip us).length }:=by
  have noA:∀ b:Addr,b∉(cxCl CX0 P w K mg base (ps ++ fv) qual scope f (.ref c') cl A outer s H E).ex:=fun b z=>absurd (show b∈([]:List Addr) from z) (by simp)
  refine ⟨⟨e0.mod,S.kind,rfl,rfl,Nat.le_refl _,S.inj,fun y hy=>?_,fun y c h=>(by cases h),fun _=>hr.hd,Around.frames_deeper e0.frames,.inr ⟨rfl,rfl⟩,fun b z=>absurd z (noA b),e0.bs,e0.bsz,fun b _ _=>noA b,fun b z=>absurd z (noA b),e0.funs,e0.frf⟩,
   rfl,e0.bare,Un.kept kp,⟨_,ns,fun i y v h1 h2 h3=>?_⟩,fun y c h=>?_,e0.hok.fresh (Nat.le_refl _),fun y c h=>?_,fun p hp=>absurd (show p∈([]:List (Addr×Obj)) from hp) (by simp),e0.hok.kept kp,?_⟩
  ·have hy:scope.names.lookup y=some .cell \/ scope.names.lookup y=some .free:=hy
   rcases hy with hy | hy
   ·exact absurd rfl (S.nocell _ (PySem.mem_of_lookup hy))
   ·exact S.only y hy
  ·have h1:(ps ++ fv)[i]?=some y:=h1
   have h2:((vs ++ cvs).map some)[i]?=some (some v):=h2
   have ha:(vs ++ cvs)[i]?=some v:=by
    rw [List.getElem?_map] at h2
    cases e:(vs ++ cvs)[i]? with
    | none=>rw [e] at h2; cases h2
    | some a=>rw [e] at h2; cases h2; rfl
   by_cases hi:i < ps.length
   ·rw [List.getElem?_append_left hi] at h1
    rw [List.getElem?_append_left (by omega)] at ha
    obtain ⟨u,hu,rv⟩:=r.get ha
    exact ⟨u,rv,.inl ⟨S.par y (List.mem_of_getElem? h1),zku (S.nd.sublist (List.sublist_append_left _ _)) h1 hu⟩⟩
   ·rw [List.getElem?_append_right (by omega)] at h1
    rw [List.getElem?_append_right (by omega),hl] at ha
    obtain ⟨c,u,e1,⟨o,e2,e3⟩,rv⟩:=cells _ y v h1 ha
    exact ⟨u,rv,.inr ⟨.inr (S.fr y (List.mem_of_getElem? h1)),c,e1,o,kp _ _ (e0.bs c o e2).1,e3⟩⟩
  ·obtain ⟨v,o,e1,e2⟩:=allc y c h
   exact ⟨v,o,kp _ _ (e0.bs c o e1).1,e2⟩
  ·obtain ⟨v,o,e1,e2⟩:=allc y c h
   exact (e0.bs c o e1).2
  ·show _=(ps ++ fv).length
   rw [List.length_map,List.length_append,List.length_append,hl,hcv]
 refine wpAny_mono (ht [] _ ((vs ++ cvs).map some) H _ I hq) (fun u s' hs=>?_) fun e s' hs=>hs
 obtain ⟨v,H',J,rv,q⟩:=hs
 exact ⟨v,H',J.os,J.bare,J.base,J.hok,rv,q⟩
end L2
namespace L2
open PySem PySem.Spec PyProof.Rows
section
variable {X:Cx} {pins:List (Addr×Obj)} {σ:St} {H:Hp} {s:Shared}
noncomputable def wideB (X:Cx) (s:Shared) (H:Hp):Heap:=PySem.W.hideAll (hidT s.heap H) (frs X.stack)
theorem zkN {b:Addr} {o:Obj} (e:(wideB X s H).get? b=some o):s.heap.get? b=some o /\ H b=none:=ziL (PySem.W.of_hideAll _ e)
theorem zcf {b:Addr} {o:Obj} (e:s.heap.get? b=some o) (n:H b=none) (f:b∉frs X.stack):(wideB X s H).get? b=some o:=PySem.W.hideAll_get _ (zcW e n) f
theorem Inv.wide (I:Inv X pins σ H s) {b:Addr} {o:Obj} (e:X.base.get? b=some o):(wideB X s H).get? b=some o:=
 zcf (I.bs b o e).1 (I.bs b o e).2 fun z=>by rw [(I.stack.mem z).1] at e; cases e
theorem Ns.widen {h h':Heap} {a:Addr} {m:Str->Option Value} (k:∀ b o,h.get? b=some o->h'.get? b=some o) (n:h.Ns a m):h'.Ns a m:=let ⟨o,es,ep,e,r⟩:=n; ⟨o,es,ep,k _ _ e,r⟩
theorem Mod.widen {K:PySem.W.Frag} {mg:Str->Option Value} {h h':Heap} (m:Mod K mg h) (k:∀ b o,h.get? b=some o->h'.get? b=some o):Mod K mg h':=
 ⟨m.kin.keeps k,Ns.widen k m.glob,let ⟨mb,h1,h2⟩:=m.blt; ⟨mb,Ns.widen k h1,h2⟩,m.nolimit.keeps k⟩
theorem zeV {h base base':Heap}:∀ {l:List Env},h.FunFrames base l->(∀ b∈frs l,base'.get? b=none)->h.FunFrames base' l
 | [],_,_=>trivial
 | env :: l,f,n=>by
   obtain ⟨h1,⟨L,o,e1,e2,e3⟩,h3⟩:=f
   have hL:L∈frs (env :: l):=by unfold frs; rw [List.filterMap_cons,e1]; exact List.mem_cons_self
   refine ⟨h1,⟨L,o,e1,n L hL,e3⟩,zeV h3 fun b hb=>n b ?_⟩
   unfold frs at hb ⊢
   rw [List.filterMap_cons,e1]
   exact List.mem_cons_of_mem _ hb
theorem Inv.env2 (I:Inv X pins σ H s):Env0 X.prog X.w X.K X.mg (wideB X s H) X.A X.stack s H:=
 ⟨I.ok.frames,I.ok.mod.widen fun _ _ e=>I.wide e,fun _ _ e=>zkN e,by unfold wideB; rw [PySem.W.hideAll_size,zfz]; exact Nat.le_refl _,zeV I.stack fun _ hb=>PySem.W.hideAll_none _ hb,I.stkFree,I.hok,I.bare⟩
end
end L2
namespace L2
open PySem PySem.Spec PyProof.Rows
section
variable {X:Cx} {pins:List (Addr×Obj)} {σ:St} {H:Hp} {s:Shared}
theorem znV {params:Arguments} {body:Expr} {scope:Scope} {pos:Pos} {c P:Addr} {q:Str} {Q:Value->Shared->Prop} {E:Value->Shared->Prop} (I:Inv X pins σ H s) (hd:defaultsOf params X.env=([],[]))
  (hcl:∀ y∈scope.names,y.2=.free->∃ c,X.env.cells.lookup y.1=some c) (hcode:X.env.code=.ref c) (hH:PySem.W.CodeHd s.heap c P) (hP:H P=some (.lam pos q)) (hq:X.env.qual ++ Str.ofString "<lambda>"=q) (hb:s.heap.BuiltinsAt X.mg P) (hPg:mainGlobals≠P)
  (h:∀ (cl:List (Str×Addr)) (f c':Addr) (ctv:Value) (s':Shared) (H':Hp),(∀ n c,cl.lookup n=some c->X.env.cells.lookup n=some c)->(∀ n,(n,NameKind.free)∈scope.names->∃ c,cl.lookup n=some c)->Inv X pins σ H' s'->Same H H'->H' c'=some (.code q)->H' f=none->f∉frs X.stack->
   s'.heap.get? f=some (PySem.W.kla_obj (Str.ofString "<lambda>") q params body scope cl ((X.mg (Str.ofString "__name__")).getD .none) c' ctv)->Q (.ref f) s'):
  wpAny (model X.prog X.w) X.A (eval (.Lambda params body scope pos) X.env) Q E s:=by
 subst hq
 refine PySem.W.kla_eval hd ?_
 obtain ⟨cl,e1,h1,h2⟩:=zcw hcl
 obtain ⟨ps,hps,ht,hc⟩:=(show ObjOk X.prog X.w H s.heap P (.lam pos _) from I.hok P _ hP)
 have hns:s.heap.Ns mainGlobals X.mg:=Ns.widen I.bk I.ok.mod.glob
 have hfr:∀ f:Addr,s.heap.objs.size<=f->f∉frs X.stack:=fun f hf z=>by
  obtain ⟨_,o,e,_⟩:=I.stack.mem z
  exact Nat.lt_irrefl _ (Nat.lt_of_lt_of_le (Heap.lt_size e) hf)
 rcases hc with hn | ⟨c',hc',hcc⟩
 ·refine PySem.W.kla_makeFunction e1 I.ok.glob hns hcode hH hps ht hn hPg hb fun c' ctv h' tk ext hge hlt hrec htab=>?_
  have hcn:H c'=none:=I.hok.fresh hge
  have hPc:P≠c':=fun z=>by rw [z,hcn] at hP; cases hP
  have un:Un X.fs [] H (upd H c' (.code (X.env.qual ++ Str.ofString "<lambda>"))) s.heap h':=by
   have kp:∀ b o,s.heap.get? b=some o->H b=none->h'.get? b=some o:=fun b o e n=>ext b o (fun z=>by rw [z,hP] at n; cases n) e
   refine ⟨fun b o e n _ _=>kp b o e n,fun b o e n _ _=>⟨o.slots,kp b o e n⟩,fun b o e n _=>?_,fun b o e _=>?_,fun b xs e=>?_,fun b o u e=>?_,fun b ts e=>⟨#[],?_⟩⟩
   ·rw [zt (Nat.ne_of_lt (Nat.lt_of_lt_of_le (Heap.lt_size e) hge))]; exact n
   ·by_cases z:b=P
    ·rw [z]; exact ⟨_,htab⟩
    ·exact ⟨o,ext b o z e⟩
   ·rw [zt (zu e hcn)]; exact e
   ·rw [zt (zu e hcn)]; exact e
   ·rw [zt (zu e hcn),e]; simp
  have ok:HOk X.prog X.w (upd H c' (.code (X.env.qual ++ Str.ofString "<lambda>"))) h':=fun a o e=>by
   by_cases ha:a=c'
   ·subst ha; rw [zH] at e; cases e; exact hrec
   ·rw [zt ha] at e
    by_cases hb':a=P
    ·subst hb'
     rw [hP] at e; cases e
     exact ⟨_,htab,by rw [Array.toList_append]; exact TriplesOk_snoc _ _ _ _ ht,.inr ⟨c',by rw [Array.toList_append]; exact codeAmong_snoc _ ht hn,zH⟩⟩
    ·refine (I.hok a o e).stay (fun b u hbb q=>ext b u ?_ q) (fun b q=>by rw [zt (zu q hcn)]; exact q) fun b xs q=>q.new hcn
     rcases hbb with z | z
     ·rw [z]; exact hb'
     ·intro y; rw [y,hP] at z; cases z
  have I1:=I.un (t':=tk) un ok
  have hsz:s.heap.objs.size<=h'.objs.size:=Nat.le_of_lt (Nat.lt_of_le_of_lt hge hlt)
  have I2:Inv X pins σ (upd H c' (.code (X.env.qual ++ Str.ofString "<lambda>"))) { s with heap:=h'.push (PySem.W.kla_obj (Str.ofString "<lambda>") (X.env.qual ++ Str.ofString "<lambda>") params body scope cl ((X.mg (Str.ofString "__name__")).getD .none) c' ctv),toks:=tk }:=
   I1.kept (t':=tk) fun b o e=>Heap.get?_push_of_some _ e
  exact h cl h'.objs.size c' ctv _ _ h1 h2 I2 (fun b o e=>by rw [zt (zu e hcn)]; exact e) zH (ok.fresh (Nat.le_refl _)) (hfr _ hsz) (Heap.get?_push_size _ rfl)
 ·refine PySem.W.kla_makeFunctionHit e1 I.ok.glob hns hcode hH hps ht hc' hb fun ctv h' tk kp hsz=>?_
  have I2:Inv X pins σ H { s with heap:=h'.push (PySem.W.kla_obj (Str.ofString "<lambda>") (X.env.qual ++ Str.ofString "<lambda>") params body scope cl ((X.mg (Str.ofString "__name__")).getD .none) c' ctv),toks:=tk }:=
   I.kept (t':=tk) fun b o e=>Heap.get?_push_of_some _ (kp b o e)
  exact h cl h'.objs.size c' ctv _ _ h1 h2 I2 (Same.refl H) hcc (I.hok.fresh hsz) (hfr _ hsz) (Heap.get?_push_size _ rfl)
end
end L2
namespace L2
open PySem PySem.Spec PyProof.Rows
noncomputable def codeF (f c:Addr) (q:Str):D:=.dict [(.list [],.tuple [.int (f:Nat),.int (c:Nat),.str q])]
noncomputable def spV (K:PySem.W.Frag) (c:Addr) (q:Str) (n:Nat) (G:List D->Option D):Sp:=fun vs H Q E=>H c=some (.code q) /\ spD K n G vs H Q E
structure Clo (P:Program) (w:World) (K:PySem.W.Frag) (mg:Str->Option Value) (base:Heap) (k:Nat) (f c:Addr) (q:Str) (n:Nat) (G:List D->Option D):Prop where
 fn:PySem.W.FnAt f base
 ok:∃ fd ps,FnOk P w K mg base CX0 k f fd ps (spV K c q n G) /\ Binds K fd ps []
section
variable {X:Cx} {O:List Nat} {i k kk n:Nat} {f c:Addr} {q x:Str} {e:Expr} {es:List Expr} {p pos:Pos} {t:TA} {sp:Sp} {fd:FuncData} {ps:List Str} {G:List D->Option D} {gr:DS->Option (List D)}
noncomputable def tCallV (i:Nat) (f:Addr) (sp:Sp) (t:TA):TE:=fun σ H Q=>σ[i]?=some (some (.ref f)) /\ t σ H fun vs H1=>sp (vs ++ []) H1 Q E0
theorem zkJ (F:FnOk X.prog X.w X.K X.mg X.base CX0 k f fd ps sp) (hf:PySem.W.FnAt f X.base) (hr:Room k X.A) (hb:Binds X.K fd ps []) (ha:PA X (e :: es) t) (hN:X.N[i]?=some x) (hv:Vis X.env.scope x) (hd:(x == ("__debug__":Str))=false) (hcd:(x == ("__classdict__":Str))=false)
  (he:starEach (e :: es) X.env=(false,eval e X.env) :: starEach es X.env) (hpl:(backTo pos (starEach es X.env)).any (·.1)=false):PE X (.Call (.Name x p) (e :: es) [] pos) (tCallV i f sp t):=by
 intro pins s σ H Q I h
 obtain ⟨h1,h2⟩:=h
 have fnAt:∀ {s:Shared} {H:Hp} {σ:St},Inv X pins σ H s->PySem.W.FnAt f s.heap:=fun {s H σ} I=>let ⟨oc,od,fd,sl,e⟩:=hf; ⟨oc,od,fd,sl,I.bk _ _ e⟩
 refine wpAny_Call_Name_kw (thn (zla hN hv hd hcd pins s σ H (fun v H'=>v=.ref f /\ H'=H) I ⟨_,h1,rfl,rfl⟩) fun u s1 ⟨v,H1,I1,r,e1,e2⟩=>?_)
 subst e1 e2
 cases (show u=Value.ref f from r)
 refine PySem.W.callWith_F (fnAt I1) (thn (ha pos pins s1 σ H1 _ I1 h2) fun us s2 ⟨vs,H2,I2,r2,q2⟩=>⟨fnAt I2,?_⟩) he hpl
 exact zk7 F hr hb .nil pass0 I2 r2 q2
noncomputable def gCallV (f c:Addr) (q:Str) (G:List D->Option D) (n i:Nat) (g:DS->Option (List D)):DS->Option D:=fun δ=>open Classical in if δ[i]?=some (some (codeF f c q)) then (g δ).bind fun ds=>if ds.length=n then G ds else none else none
set_option tactic.hygienic true in
theorem zj0 (C:Clo X.prog X.w X.K X.mg X.base k f c q n G) (hr:Room kk X.A) (hk:k<=kk) (ha:PA X (e :: es) (tAs X.K O gr)) (hN:X.N[i]?=some x:=by rfl) (hv:visB (X.env.scope.names.lookup x)=true:=by rfl) (hd:(x == ("__debug__":Str))=false:=by decide) (hcd:(x == ("__classdict__":Str))=false:=by decide)
  (he:starEach (e :: es) X.env=(false,eval e X.env) :: starEach es X.env:=by rfl) (hpl:(backTo pos (starEach es X.env)).any (·.1)=false:=by rfl) (hi:i∉O:=by decide):PE X (.Call (.Name x p) (e :: es) [] pos) (tE X.K O (gCallV f c q G n i gr)):=by
 obtain ⟨fd,ps,F,hb⟩:=C.ok
 refine (zkJ F C.fn (hr.mono hk) hb ha hN (zk2 hv) hd hcd he hpl).mono fun σ H Q hh=>hh.e fun U A0 δ d R ed q'=>?_
 unfold gCallV at ed
 split at ed
 ·rename_i hs
  obtain ⟨ds,e1,e2⟩:=bind1 ed
  split at e2
  ·rename_i hn
   obtain ⟨v,ev,hv'⟩:=R.fz i _ hi hs
   have key:v=.ref f /\ H c=some (.code q):=by
    unfold codeF at hv'
    cases hv' with
    | fn hc=>exact ⟨by simpa using rfl,zah _ _ hc⟩
    | @dct a kvs kds h1 kk h3=>
      exfalso
      cases kvs with
      | nil=>cases kk
      | cons p r=>simp at kk
   refine ⟨by rw [ev,key.1],U,A0,δ,ds,R,e1,fun vs H' s h=>?_⟩
   show spV X.K c q n G (vs ++ []) H' Q E0
   rw [List.append_nil]
   exact ⟨s _ _ key.2,by rw [h.len]; exact hn,U ++ A0,ds,d,(R.same s).al,h,e2,fun v H2 s2 h2=>q' v H2 (s.trans s2) h2⟩
  ·cases e2
 ·cases ed
end
end L2
namespace L2
open PySem PySem.Spec PyProof.Rows
noncomputable def BAt (mg:Str->Option Value) (h:Heap):Prop:=∃ bm ob,mg (Str.ofString "__builtins__")=some (.ref bm) /\ bm≠builtinsNs /\ h.get? bm=some ob /\ ob.cls=.type "module" /\ ob.dict=some builtinsNs /\ ob.data=.plain
noncomputable def capI:List Nat->DS->Option (List Int)
 | [],_=>some []
 | i :: ix,δ=>(δ[i]?).bind fun o=>o.bind fun d=>match d with
   | .int n=>(capI ix δ).bind fun r=>some (n :: r)
   | _=>none
set_option tactic.hygienic true in
theorem ziG:∀ {ix:List Nat} {δ:DS} {is:List Int},capI ix δ=some is->is.length=ix.length /\ ∀ (j i:Nat) (n:Int),ix[j]?=some i->is[j]?=some n->δ[i]?=some (some (.int n))
 | [],δ,is,h=>by cases h; exact ⟨rfl,fun j i n h=>by simp at h⟩
 | i :: ix,δ,is,h=>by
   unfold capI at h
   obtain ⟨o,e1,h⟩:=bind1 h
   obtain ⟨d,e2,h⟩:=bind1 h
   split at h
   ·rename_i n
    obtain ⟨r,e3,e4⟩:=bind1 h
    cases e4
    obtain ⟨h1,h2⟩:=ziG e3
    refine ⟨by simp [h1],fun j i' n' a b=>?_⟩
    cases j with
    | zero=>simp at a b; subst a b; rw [e1,e2]
    | succ j=>exact h2 j i' n' (by simpa using a) (by simpa using b)
   ·cases h
noncomputable def gLam (gb:DS->Option D) (is:List Int):List D->Option D:=fun ds=>gb ((ds ++ is.map PyData.int).map some)
noncomputable def allF (g:Addr->Addr->Option D):Option D:=open Classical in if h:∃ d,∀ f c,g f c=some d then some h.choose else none
set_option tactic.hygienic true in
theorem zjJ {g:Addr->Addr->Option D} {d:D} (h:allF g=some d) (f c:Addr):g f c=some d:=by
 unfold allF at h
 split at h
 ·rename_i q
  cases h
  exact q.choose_spec f c
 ·cases h
theorem zlF {g:Addr->Addr->Option D} {d:D} (h:∀ f c,g f c=some d):allF g=some d:=by
 unfold allF
 rw [dif_pos ⟨d,h⟩]
 have:=(⟨d,h⟩:∃ d,∀ f c,g f c=some d).choose_spec 0 0
 rw [h 0 0] at this
 exact this.symm
noncomputable abbrev GPT:=Addr->Addr->Str->(List D->Option D)->List D->Option D
noncomputable def gPW (GP:GPT) (q:Str) (ix:List Nat) (gb:DS->Option D):DS->Option D:=fun δ=>(capI ix δ).bind fun is=>allF fun f c=>GP f c q (gLam gb is) [codeF f c q]
theorem Rel.ofData {K:PySem.W.Frag} {A:List Addr} {H:Hp} {vs:List V} {ds:List D} (al:Ls A H) (h:HDs K (wo H A) vs ds):Rel K [] [] A (vs.map some) (ds.map some) H where
 len:=by rw [List.length_map,List.length_map,h.len]
 fz:=fun i d _ e=>by
  rw [List.getElem?_map] at e
  cases q:ds[i]? with
  | none=>rw [q] at e; cases e
  | some d'=>
    rw [q] at e; cases e
    obtain ⟨v,e1,e2⟩:=h.get q
    exact ⟨v,by rw [List.getElem?_map,e1]; rfl,e2⟩
 ow:=fun i d hi=>by simp at hi
 inj:=fun i j d e l hi=>by simp at hi
 al:=al
structure LamS (ps fv:List Str) (sc:Scope):Prop where
 kind:sc.kind=.function
 co:sc.isCoroutine=false
 gen:sc.isGenerator=false
 nocell:∀ y∈sc.names,y.2≠.cell
 nd:(ps ++ fv).Nodup
 par:∀ x∈ps,sc.names.lookup x=some .local
 fr:∀ x∈fv,sc.names.lookup x=some .free
noncomputable def DnC (P:Program) (w:World) (K:PySem.W.Frag) (mg:Str->Option Value) (k kc n:Nat) (x p:Str) (GP:GPT):Prop:=
 (∃ f0,mg x=some (.ref f0) /\ PySem.W.keepIn K (.ref f0)=true) /\ ∀ (base:Heap) (f c:Addr) (q:Str) (G:List D->Option D),K.In base->base.Ns mainGlobals mg->Clo P w K mg base kc f c q n G->Dn P w K mg base k x [p] (spD K 1 (GP f c q G))
section
variable {X:Cx} {pins:List (Addr×Obj)} {σ:St} {H:Hp} {s:Shared} {O:List Nat}
theorem znN {k:Nat} {f c':Addr} {name qual:Str} {params:Arguments} {body:Expr} {scope:Scope} {cl:List (Str×Addr)} {pm ctv:Value} {ps fv:List Str} {ix:List Nat} {is:List Int} {gb:DS->Option D} (I:Inv X pins σ H s)
  (hf:s.heap.get? f=some (PySem.W.kla_obj name qual params body scope cl pm c' ctv)) (hn:H f=none) (hfr:f∉frs X.stack) (h1:∀ n c,cl.lookup n=some c->X.env.cells.lookup n=some c) (h2:∀ n,(n,NameKind.free)∈scope.names->∃ c,cl.lookup n=some c)
  (hfn:∀ x,X.fn x=true) (S:LamS ps fv scope) (hix:ix.map (fun i=>X.N[i]?)=fv.map some) (hvis:∀ x∈fv,X.env.scope.names.lookup x=some .cell) (hcap:∀ (j i:Nat) (n:Int),ix[j]?=some i->is[j]?=some n->σ[i]?=some (some (.int n))) (hlen:is.length=ix.length)
  (hb:∀ us:List Value,us.length=ps.length->bindArgs (PySem.W.kla_fn name qual params body scope cl pm (.ref c') ctv) ⟨us,[]⟩=pure (ps.zip us))
  (hbody:∀ (base:Heap) (A:Around) (outer:List Env) (s:Shared) (H:Hp) (E:XK),Room k (A.deeper (PySem.W.envX qual scope s.heap.objs.size f (.ref c') cl))->PE (cxCl CX0 X.prog X.w X.K X.mg base (ps ++ fv) qual scope f (.ref c') cl A outer s H E) body (tE X.K [] gb)):
  Clo X.prog X.w X.K X.mg (wideB X s H) (k + 1) f c' qual ps.length (gLam gb is):=by
 have hfv:fv.length=ix.length:=by have:=congrArg List.length hix; simpa using this.symm
 have nofr:∀ {x:Str} {c:Addr},X.env.cells.lookup x=some c->c∉frs X.stack:=fun {x c} e z=>by
  rcases List.mem_cons.mp (I.stkSub c z) with y | y
  ·exact I.cne x c e y
  ·obtain ⟨_,o,ho,_⟩:=I.ok.funs.mem y
   exact Nat.lt_irrefl _ (Nat.lt_of_lt_of_le (Heap.lt_size ho) (I.ok.cab x c (hfn x) e))
 have cellB:∀ {x:Str} {c:Addr} {v:Option Value},X.env.cells.lookup x=some c->s.heap.IsCell c v->(wideB X s H).IsCell c v:=fun {x c v} e h=>by
  obtain ⟨o,e1,d⟩:=h
  exact ⟨o,zcf e1 (I.freeC x c e) (nofr e),d⟩
 refine ⟨⟨_,_,_,_,zcf hf hn hfr⟩,_,ps,zon (cvs:=is.map V.int) (zcf hf hn hfr) ⟨S.kind,S.co,S.gen,S.nocell,S.nd,S.par,S.fr,fun x hx=>h2 x (PySem.mem_of_lookup hx),fun x y c a b=>I.ok.inj x y c (h1 _ _ a) (h1 _ _ b)⟩ (by rw [List.length_map,hlen,hfv]) (fun j x v e1 e2=>?_) (fun x c e=>?_) (fun vs H Q E q=>q.2.1) (fun vs H Q E q=>q.1) fun A outer s' H' vs Q E hr hsp=>?_,Binds.all hb⟩
 ·obtain ⟨c,hc⟩:=h2 x (PySem.mem_of_lookup (S.fr x (List.mem_of_getElem? e1)))
  rw [List.getElem?_map] at e2
  cases q:is[j]? with
  | none=>rw [q] at e2; cases e2
  | some n=>
    rw [q] at e2; cases e2
    have hj:j < ix.length:=by rw [<- hlen]; exact (List.getElem?_eq_some_iff.mp q).1
    have hi:ix[j]?=some ix[j]:=List.getElem?_eq_getElem hj
    have hN:X.N[ix[j]]?=some x:=by
     have:=congrArg (fun l=>l[j]?) hix
     simp only [List.getElem?_map,hi,e1] at this
     simpa using this
    obtain ⟨m,_,hl⟩:=I.loc
    obtain ⟨u,ru,lk⟩:=hl _ x _ hN (hcap j _ n hi q) (.inr (.inl (hvis x (List.mem_of_getElem? e1))))
    refine ⟨c,u,hc,?_,ru⟩
    rcases lk with ⟨z,_⟩ | ⟨_,c0,e0,hcell⟩
    ·have:=hvis x (List.mem_of_getElem? e1)
     unfold Env.kindOf at z
     rw [this] at z; cases z
    ·rw [h1 x c hc] at e0; cases e0
     exact cellB (h1 x c hc) hcell
 ·obtain ⟨v,hv⟩:=I.cell x c (h1 x c e)
  exact ⟨v,cellB (h1 x c e) hv⟩
 ·obtain ⟨_,hl,A',ds,d,al,hd,e,q⟩:=hsp
  exact ⟨_,hbody _ A outer s' H' E hr,[],A',(ds ++ is.map PyData.int).map some,d,Rel.ofData al (hd.app (HDs.ints is)),e,q⟩
end
section
variable {X:Cx} {O:List Nat}
theorem zow {k kk kc:Nat} {x pn:Str} {GP:GPT} {c P:Addr} {q:Str} {params:Arguments} {body:Expr} {scope:Scope} {pos p pos':Pos} {ps fv:List Str} {ix:List Nat} {gb:DS->Option D} (sc:Scope)
  (DP:DnC X.prog X.w X.K X.mg k (kc + 1) ps.length x pn GP) (hr:Room kk X.A) (hk:k<=kk) (hB:BAt X.mg X.base) (hHd:PySem.W.codeHdIn X.K c P=true) (m:(P,pos,q)∈lamTab) (S:LamS ps fv scope)
  (hbody:∀ (base:Heap) (f c':Addr) (cl:List (Str×Addr)) (A:Around) (outer:List Env) (s:Shared) (H:Hp) (E:XK),Room kc (A.deeper (PySem.W.envX q scope s.heap.objs.size f (.ref c') cl))->PE (cxCl CX0 X.prog X.w X.K X.mg base (ps ++ fv) q scope f (.ref c') cl A outer s H E) body (tE X.K [] gb))
  (hb:∀ (name qual:Str) (cl:List (Str×Addr)) (pm cd ctv:Value) (us:List Value),us.length=ps.length->bindArgs (PySem.W.kla_fn name qual params body scope cl pm cd ctv) ⟨us,[]⟩=pure (ps.zip us))
  (hcode:X.env.code=.ref c:=by rfl) (hq:X.env.qual ++ Str.ofString "<lambda>"=q:=by rfl) (hix:ix.map (fun i=>X.N[i]?)=fv.map some:=by rfl) (e0:X.env.scope=sc:=by rfl) (hvis:∀ x∈fv,sc.names.lookup x=some .cell:=by decide +kernel) (hfr:∀ y∈scope.names,y.2=.free->sc.names.lookup y.1=some .cell:=by decide +kernel)
  (hfn:∀ x,X.fn x=true:=by intro _; rfl) (hd:defaultsOf params X.env=([],[]):=by rfl) (hg:Gl X x:=by rfl)
  (hdb:(x == ("__debug__":Str))=false:=by decide) (he:starEach [.Lambda params body scope pos] X.env=(false,eval (.Lambda params body scope pos) X.env) :: starEach [] X.env:=by rfl) (hpl:(backTo pos' (starEach [] X.env)).any (·.1)=false:=by rfl):
  PE X (.Call (.Name x p) [.Lambda params body scope pos] [] pos') (tE X.K O (gPW GP q ix gb)):=by
 subst e0
 intro pins s σ H Q I ⟨U,A0,δ,d,R,ed,q'⟩
 unfold gPW at ed
 obtain ⟨is,e1,e2⟩:=bind1 ed
 obtain ⟨⟨f0,m0,kp⟩,DP⟩:=DP
 obtain ⟨hl,hcap⟩:=ziG e1
 have hP:H P=some (.lam pos q):=R.al.2.2 P pos q m
 obtain ⟨ps0,hps,_⟩:=(show ObjOk X.prog X.w H s.heap P (.lam pos q) from I.hok P _ hP)
 obtain ⟨bm,ob,b1,b2,b3,b4,b5,b6⟩:=hB
 have hns:s.heap.Ns mainGlobals X.mg:=Ns.widen I.bk I.ok.mod.glob
 have nem:∀ {a:Addr},(∀ o es ep,s.heap.get? a=some o->o.data≠.dict es ep)->a≠mainGlobals:=fun {a} h z=>by
  subst z
  obtain ⟨o,es,ep,e,d,_⟩:=hns
  exact h o es ep e d
 have b3':=I.bk _ _ b3
 refine wpAny_Call_Name_kw (zcA I hg m0 ?_ hdb)
 refine PySem.W.callWith_K (h₀:=X.base) I.ok.mod.kin kp ?_ he hpl
 rw [he]
 show wpAny _ _ (spliced ((false,eval (.Lambda params body scope pos) X.env) :: backTo pos' (starEach [] X.env))) _ _ s
 refine Calls.spliced_cons (znV I hd (fun y hy hf=>I.ok.has _ (.inl (hfr y hy hf))) hcode (PySem.W.codeHd_of_K I.kIn hHd) hP hq ⟨bm,ob,b1,b2,nem fun o es ep e z=>?_,fun z=>?_,b3',b4,b5,b6⟩ (Ne.symm (nem fun o es ep e z=>?_)) fun cl f c' ctv s1 H1 h1 h2 I1 s01 hc hf hff hobj=>Calls.spliced_nil ⟨I1.kIn,?_⟩)
 ·rw [b3'] at e; cases e; rw [b6] at z; cases z
 ·subst z
  rw [hps] at b3'; cases b3'
  cases b6
 ·rw [hps] at e; cases e; cases z
 ·have C:=znN (k:=kc) (gb:=gb) (is:=is) I1 hobj hf hff h1 h2 hfn S hix hvis (fun j i n a b=>by
   obtain ⟨v,ev,hv⟩:=R.at (hcap j i n a b)
   rw [ev,hv.int]) hl (hb _ _ _ _ _ _) fun base=>hbody base f c' cl
  obtain ⟨f1,fd,F,m1,_,bi⟩:=DP (wideB X s1 H1) f c' q _ (I1.ok.mod.widen fun _ _ e=>I1.wide e).kin (I1.ok.mod.widen fun _ _ e=>I1.wide e).glob C
  rw [m0] at m1; cases m1
  have al:=R.al.same s01
  have hcA:c'∉U ++ A0:=fun z=>by
   obtain ⟨o,e,w⟩:=al.1 c' z
   rw [hc] at e; cases e; exact w
  have sp:spD X.K 1 (GP f c' q (gLam gb is)) [V.ref f] H1 Q E0:=⟨rfl,U ++ A0,[codeF f c' q],d,al,.cons (.fn (by rw [zT hcA]; exact hc)) .nil,zjJ e2 f c',fun v H2 s2 h2=>q' v H2 (s01.trans s2) h2⟩
  refine wpAny_call (codeAny_mono (F.run X.A X.stack s1 H1 ⟨[.ref f],[]⟩ [.ref f] [V.ref f] Q E0 (hr.mono hk) I1.env2 (bi s1 [.ref f] I1.kIn rfl) (.cons rfl .nil) sp) fun r s' hq=>?_)
  cases r with
  | error e=>exact hq.elim
  | ok fl=>
    cases fl with
    | ret u=>exact I1.after hq
    | next=>exact False.elim hq
    | brk=>exact False.elim hq
    | cont=>exact False.elim hq
end
noncomputable def DfC (K:PySem.W.Frag) (mg:Str->Option Value) (x:Str) (st:Stmt) (ps:List Str) (c:Addr):Prop:=∃ f fd,Fun K x x st f fd /\ fd.code=.ref c /\ mg x=some (.ref f) /\ Binds K fd ps []
theorem zmg {P:Program} {w:World} {K:PySem.W.Frag} {mg:Str->Option Value} {base:Heap} {x:Str} {st:Stmt} {N ps:List Str} {k:Nat} {c:Addr} (O:List Nat) (g:DS->Option Res) (F:DfC K mg x st ps c) (S:FnScope N ps (defScope st))
  (body:∀ (f:Addr) (A:Around) (outer:List Env) (s:Shared) (H:Hp) (E:XK),Room k (A.deeper (envOfC x (defScope st) s.heap.objs.size f (.ref c)))->PSs (cxOf CX0 P w K mg base N x (defScope st) f (.ref c) A outer s H E).nox (defBody st) (tS K O (false,fun _ _=>True) g))
  (hO:∀ i∈O,ps.length<=i:=by decide) {n m:Nat} (hN:N.length=n:=by rfl) (hP:ps.length=m:=by rfl):Dn P w K mg base (k + 1) x ps (spD K m (gDef n g)):=by
 subst hN hP
 obtain ⟨f,fd,F,hc,m,b⟩:=F
 have kp:=F.kp
 obtain ⟨oc,od,kV,doc,pm,an,cdv,ct,osl,rfl,lk,hcd⟩:=F.ex
 cases (show cdv=.ref c from hc)
 refine ⟨f,_,zmi lk hcd S (fun vs H Q E h=>h.1) fun A outer s H vs Q E hr h=>⟨_,(body f A outer s H E hr).nox,?_⟩,m,kp,b⟩
 obtain ⟨hn,A',ds,d,al,hd,e,q⟩:=h
 obtain ⟨r,e1,e2⟩:=bind1 e
 refine ⟨H,[],A',_,r,Rel.start al hd (fun i hi=>by have:=hO i hi; rw [<- hd.len,hn]; exact this),Fx.start al,e1,?_⟩
 cases r with
 | nx δ=>cases e2; exact fun U σ H' R F'=>q .non H' F'.same .non
 | rt d=>cases e2; exact ⟨fun v H' h=>by unfold RetR at h; rw [if_neg Bool.false_ne_true] at h; exact q v H' h.1 h.2,fun _ _ _ _=>trivial⟩
 | bk _=>cases e2
 | ct _=>cases e2
theorem zm8 {ts:List Addr} {p:Addr} {y:Pos} {q:Str} (h:(lamTab.all fun t=>ts.contains t.1)=true) (m:(p,y,q)∈lamTab):p∈ts:=by
 have:=List.all_eq_true.mp h _ m
 simpa using this
end L2
namespace L2
open PySem PySem.Spec PyProof.Rows
section
variable {prog:Program} {w:World} {A:Around} {E:Value->Shared->Prop}
end
section
variable {X:Cx} {O:List Nat} {es:List Expr} {pos:Pos}
end
end L2
namespace L2
open PySem PySem.Spec PyProof.Rows
theorem zhN {β:Type}:∀ {l:List (Addr×β)} {p:Addr} {x:β},l.lookup p=some x->(p,x)∈l
 | [],_,_,h=>by cases h
 | (q,y) :: l,p,x,h=>by
   rw [List.lookup_cons] at h
   by_cases e:p=q
   ·subst e
    rw [beq_self_eq_true] at h
    cases h
    exact List.mem_cons_self
   ·rw [show (p == q)=false by simpa using e] at h
    exact List.mem_cons_of_mem _ (zhN h)
structure LamOk (K:PySem.W.Frag):Prop where
 one:∀ p y q,(p,y,q)∈lamTab->lamTab.lookup p=some (y,q)
 out:∀ p y q,(p,y,q)∈lamTab->K.lookup p=none /\ ∃ c,PySem.W.codeHdIn K c p=true
noncomputable def Hl:Hp:=fun b=>(lamTab.lookup b).map fun t=>HO.lam t.1 t.2
theorem zlG {b:Addr} {o:HO} (h:Hl b=some o):∃ y q,o=.lam y q /\ (b,y,q)∈lamTab:=by
 unfold Hl at h
 cases e:lamTab.lookup b with
 | none=>rw [e] at h; cases h
 | some t=>rw [e] at h; cases h; exact ⟨t.1,t.2,rfl,zhN e⟩
end L2
namespace L2
open PySem PySem.Spec PyProof.Rows
set_option tactic.hygienic true in
theorem znT {K:PySem.W.Frag} {c p:Addr} (C:CstOk K) (h:PySem.W.codeHdIn K c p=true):PySem.W.codeHdIn (offC K) c p=true:=by
 have e:(offC K).lookup c=K.lookup c:=by
  cases q:K.lookup c with
  | none=>rw [zbw,q]; split <;> rfl
  | some o=>
    refine C.look q fun its n z=>?_
    unfold PySem.W.codeHdIn at h
    rw [q] at h
    split at h
    ·rename_i hh; cases hh; cases z
    ·cases h
 unfold PySem.W.codeHdIn at h ⊢
 rw [e]; exact h
theorem zhZ {P:Program} {w:World} {K:PySem.W.Frag} {mg mb:Str->Option Value} {k:Nat} {fa a:Addr} {fd:FuncData} {x:Str} {sp:Sp} {s₁:Shared} {vs:List Value} {ns:List Int} (CC:CstOk K) (C:LamOk K)
  (KX:K.In s₁.heap) (hT:∀ p y q,(p,y,q)∈lamTab->s₁.heap.get? p=some (PySem.W.tabObj #[])) (hns:s₁.heap.Ns mainGlobals mg) (hb:s₁.heap.Ns builtinsNs mb) (hbb:∀ x:Str,x≠"__name__"->mb x=bootBuiltins x) (hlim:s₁.heap.NoLimit) (hbm:BAt mg s₁.heap) (hg:s₁.gens=#[])
  (ha:s₁.heap.get? a=some { cls:=.type "list",data:=.seq vs.toArray }) (hi:IntsAre vs ns) (hl:ns.length<=sizeLine) (hr:Room k callerA)
  (F:∀ base:Heap,(offC K).In base->base.Ns mainGlobals mg->BAt mg base->FnOk P w (offC K) mg base CX0 k fa fd [x] sp) (hbind:∀ (s:Shared) (u:Value),BindsTo s fd ⟨[u],[]⟩ [(x,u)])
  (hsp:∀ H:Hp,LsD (offC K) H a (ns.map V.int)->(∀ p xs,(p,xs)∈cstTab->TupT H p xs)->(∀ p y q,(p,y,q)∈lamTab->H p=some (.lam y q))->sp [.ref a] H (fun v H'=>v=.bl true /\ Same H H') fun _ _ _=>False):
  codeAny (model P w) callerA (.call (.ref fa) ⟨[.ref a],[]⟩) (fun r s'=>r=.ok (.ret (.bool true)) /\ OldK s₁.heap s'.heap /\ s'.os=s₁.os /\ AllBare s'.gens) s₁:=by
 have rv:=zeW hi
 have lenV:=hi.length
 have tab:∀ p y q,(p,y,q)∈lamTab->isCodeTable s₁.heap p:=fun p y q m=>by
  obtain ⟨_,c,hc⟩:=C.out p y q m
  obtain ⟨o,vs,_,_,_,_,_,_,_,h1,h2,h3,h4,_⟩:=PySem.W.codeHd_of_K KX hc
  exact ⟨c,o,vs,h1,h2,h3,h4⟩
 have core:∀ H:Hp,(∀ b o,H b=some o->(∃ ob u,o=.frz ob u /\ ∀ es ep,ob.data≠.dict es ep /\ ob.data≠.plain) \/ ∃ y q,o=.lam y q /\ (b,y,q)∈lamTab)->LsD (offC K) H a (ns.map V.int)->HOk P w H s₁.heap->(∀ p xs,(p,xs)∈cstTab->TupT H p xs)->(∀ p y q,(p,y,q)∈lamTab->H p=some (.lam y q))->(∀ b,H b≠none->(offC K).lookup b=none)->
   codeAny (model P w) callerA (.call (.ref fa) ⟨[.ref a],[]⟩) (fun r s'=>r=.ok (.ret (.bool true)) /\ OldK s₁.heap s'.heap /\ s'.os=s₁.os /\ AllBare s'.gens) s₁:=by
  intro H hO hS hok hCT hL hK
  have dat:∀ {b:Addr} {o:Obj} {u:HO},H b=some u->s₁.heap.get? b=some o->(∀ es ep,o.data≠.dict es ep) /\ o.data≠.plain:=fun {b o u} e h=>by
   rcases hO b u e with ⟨ob,z,rfl,hd⟩ | ⟨y,q,rfl,m⟩
   ·obtain ⟨e1,_⟩:=hok b _ e
    rw [h] at e1; cases e1
    exact ⟨fun es ep=>(hd es ep).1,(hd #[] 0).2⟩
   ·rw [hT b y q m] at h; cases h
    exact ⟨fun es ep z=>(by cases z),fun z=>(by cases z)⟩
  have noA:∀ {b:Addr} {o:Obj} {es:Array DictEntry} {ep:Nat},s₁.heap.get? b=some o->o.data=.dict es ep->H b=none:=fun {b o es ep} e d=>by
   cases q:H b with
   | none=>rfl
   | some u=>exact absurd d ((dat q e).1 es ep)
  have nsK:∀ {b:Addr} {m:Str->Option Value},s₁.heap.Ns b m->(hidT s₁.heap H).Ns b m:=fun {b m} ⟨o,es,ep,e,d,r⟩=>⟨o,es,ep,zcW e (noA e d),d,r⟩
  have hKb:(offC K).In (hidT s₁.heap H):=fun b o e=>by
   have e0:K.lookup b=some o:=by
    rw [zbw] at e
    split at e
    ·exact e
    ·cases e
   refine zcW (KX b o e0) ?_
   cases q:H b with
   | none=>rfl
   | some u=>rw [hK b (by rw [q]; simp)] at e; cases e
  have hBb:BAt mg (hidT s₁.heap H):=by
   obtain ⟨bm,ob,b1,b2,b3,b4,b5,b6⟩:=hbm
   refine ⟨bm,ob,b1,b2,zcW b3 ?_,b4,b5,b6⟩
   cases q:H bm with
   | none=>rfl
   | some u=>exact absurd b6 (dat q b3).2
  have hM:Mod (offC K) mg (hidT s₁.heap H):=⟨hKb,nsK hns,⟨mb,nsK hb,hbb⟩,let ⟨mc,h1,h2⟩:=hlim; ⟨mc,nsK h1,h2⟩⟩
  have e0:Env0 P w (offC K) mg (hidT s₁.heap H) callerA [] s₁ H:=⟨rfl,hM,fun b o e=>ziL e,Nat.le_of_eq (zfz _ _),trivial,fun b hb=>absurd (show b∈([]:List Addr) from hb) (by simp),hok,.of_eq hg⟩
  refine codeAny_mono ((F _ hKb (nsK hns) hBb).run callerA [] s₁ H ⟨[.ref a],[]⟩ [.ref a] [.ref a] _ _ hr e0 (hbind s₁ (.ref a)) (.cons rfl .nil) (hsp H hS hCT hL)) fun r s' h=>?_
  cases r with
  | error e=>exact h.elim
  | ok fl=>
    cases fl with
    | next=>exact False.elim h
    | brk=>exact False.elim h
    | cont=>exact False.elim h
    | ret u=>
      obtain ⟨v,H',os,bare,un,hok',r',rfl,sm⟩:=h
      obtain rfl:u=Value.bool true:=r'
      have was:∀ b o,s₁.heap.get? b=some o->asItWas s₁.heap s'.heap b o:=fun b o e=>by
       cases q:H b with
       | none=>exact .inl (un.keep b o e q (by intro z; exact absurd (show b∈([]:List Addr) from z) (by simp)) (by simp))
       | some u=>
         rcases hO b u q with ⟨ob,z,rfl,_⟩ | ⟨y,q',rfl,m⟩
         ·obtain ⟨e1,_⟩:=hok b _ q
          obtain ⟨e2,_⟩:=hok' b _ (un.frzs b ob _ q)
          rw [e] at e1; cases e1
          exact .inl e2
         ·rw [hT b y q' m] at e; cases e
          obtain ⟨ps,e2,_⟩:=(show ObjOk P w H' s'.heap b (.lam y q') from hok' b _ (sm _ _ q))
          exact .inr (.inl ⟨tab b y q' m,rfl,#[],ps,rfl,by rw [e2,Array.empty_append]⟩)
      exact ⟨rfl,⟨was,fun b o e=>un.there b o e (by simp)⟩,os,bare⟩
 have hlO:∀ (H:Hp) b y q,(b,y,q)∈lamTab->ObjOk P w H s₁.heap b (.lam y q):=fun H b y q m=>⟨#[],hT b y q m,trivial,.inl rfl⟩
 have hc1:∀ b,Hc K b=none \/ ∃ ob xs od its n sl,Hc K b=some (.frz ob (.tup xs)) /\ cstTab.lookup b=some xs /\ K.lookup b=some ob /\ ob=⟨.type "tuple",od,.seq its n,sl⟩ /\ xs.length<=sizeLine /\ Vals xs its.toList:=by
  intro b
  unfold Hc
  cases q:cstTab.lookup b with
  | none=>exact .inl rfl
  | some xs=>
    obtain ⟨od,its,n,sl,e,h1,h2⟩:=CC.tup b xs q
    refine .inr ⟨_,xs,od,its,n,sl,?_,rfl,e,rfl,h1,h2⟩
    show (K.lookup b).map _=_
    rw [e]; rfl
 have hcT:∀ p xs,(p,xs)∈cstTab->∃ ob,Hc K p=some (.frz ob (.tup xs)):=fun p xs m=>by
  obtain ⟨od,its,n,sl,e,_⟩:=CC.tup p xs (CC.one p xs m)
  refine ⟨⟨.type "tuple",od,.seq its n,sl⟩,?_⟩
  unfold Hc
  rw [CC.one p xs m]
  show (K.lookup p).map _=_
  rw [e]; rfl
 have hlc:∀ p y q,(p,y,q)∈lamTab->Hc K p=none:=fun p y q m=>by
  rcases hc1 p with z | ⟨_,_,_,_,_,_,_,_,z,_⟩
  ·exact z
  ·rw [(C.out p y q m).1] at z; cases z
 have both:∀ b o,(Hc K b).or (Hl b)=some o->(∃ ob xs od its n sl,o=.frz ob (.tup xs) /\ cstTab.lookup b=some xs /\ K.lookup b=some ob /\ ob=⟨.type "tuple",od,.seq its n,sl⟩ /\ xs.length<=sizeLine /\ Vals xs its.toList) \/ ∃ y q,o=.lam y q /\ (b,y,q)∈lamTab:=fun b o z=>by
  rcases hc1 b with q | ⟨ob,xs,od,its,n,sl,q,r⟩
  ·rw [q,Option.none_or] at z; exact .inr (zlG z)
  ·rw [q,Option.some_or] at z; cases z; exact .inl ⟨ob,xs,od,its,n,sl,rfl,r⟩
 have bO:∀ (H:Hp) b o,(Hc K b).or (Hl b)=some o->ObjOk P w H s₁.heap b o:=fun H b o z=>by
  rcases both b o z with ⟨ob,xs,od,its,n,sl,rfl,_,e,rfl,h1,h2⟩ | ⟨y,q,rfl,m⟩
  ·have hget:=KX b _ e
   exact ⟨hget,h1,its.toList,h2,_,hget,rfl,n,by simp⟩
  ·exact hlO H b y q m
 have bF:∀ b o,(Hc K b).or (Hl b)=some o->(∃ ob u,o=.frz ob u /\ ∀ es ep,ob.data≠.dict es ep /\ ob.data≠.plain) \/ ∃ y q,o=.lam y q /\ (b,y,q)∈lamTab:=fun b o z=>by
  rcases both b o z with ⟨ob,xs,od,its,n,sl,rfl,_,e,rfl,_⟩ | h
  ·exact .inl ⟨_,_,rfl,fun es ep=>⟨fun y=>(by cases y),fun y=>(by cases y)⟩⟩
  ·exact .inr h
 have bK:∀ b,(Hc K b).or (Hl b)≠none->(offC K).lookup b=none:=fun b z=>by
  cases q:(Hc K b).or (Hl b) with
  | none=>exact absurd q z
  | some o=>
    rw [zbw]
    rcases both b o q with ⟨ob,xs,od,its,n,sl,rfl,e0,_⟩ | ⟨y,q',rfl,m⟩
    ·rw [e0]; rfl
    ·rw [(C.out b y q' m).1]; split <;> rfl
 have bT:∀ p xs,(p,xs)∈cstTab->∃ ob,(Hc K p).or (Hl p)=some (.frz ob (.tup xs)):=fun p xs m=>by
  obtain ⟨ob,e⟩:=hcT p xs m
  exact ⟨ob,by rw [e,Option.some_or]⟩
 have bL:∀ p y q,(p,y,q)∈lamTab->(Hc K p).or (Hl p)=some (.lam y q):=fun p y q m=>by
  rw [hlc p y q m,Option.none_or]; unfold Hl; rw [C.one p y q m]; rfl
 have hna:(Hc K a).or (Hl a)=none:=by
  cases q:(Hc K a).or (Hl a) with
  | none=>rfl
  | some o=>
    rcases both a o q with ⟨ob,xs,od,its,n,sl,rfl,_,e,rfl,_⟩ | ⟨y,q',rfl,m⟩
    ·have:=KX a _ e
     rw [ha] at this
     have:=congrArg Obj.cls (Option.some.inj this)
     exact absurd (Value.type.inj this) (by decide)
    ·have:=hT a y q' m
     rw [ha] at this; cases this
 cases hk:(offC K).lookup a with
 | some o=>
   have e0:K.lookup a=some o:=by
    rw [zbw] at hk
    split at hk
    ·exact hk
    ·cases hk
   have e:=KX a o e0
   rw [ha] at e
   cases e
   exact core (fun b=>(Hc K b).or (Hl b)) bF (.inr ⟨vs,_,hk,by rw [lenV]; exact hl,rv⟩) (fun b u z=>bO _ b u z) (fun p xs m=>.inr (bT p xs m)) bL bK
 | none=>
   refine core (fun b=>if b=a then some (.frz { cls:=.type "list",data:=.seq vs.toArray } (.lst (ns.map V.int))) else (Hc K b).or (Hl b)) (fun b o z=>?_) (.inl (.inr ⟨{ cls:=.type "list",data:=.seq vs.toArray },if_pos rfl⟩)) (fun b u z=>?_) (fun p xs m=>?_) (fun p y q m=>?_) fun b z=>?_
   ·by_cases hb:b=a
    ·have z':=(if_pos hb).symm.trans z
     cases z'
     exact .inl ⟨_,_,rfl,fun es ep=>⟨fun y=>(by cases y),fun y=>(by cases y)⟩⟩
    ·exact bF b o ((if_neg hb).symm.trans z)
   ·by_cases hb:b=a
    ·have z':=(if_pos hb).symm.trans z
     cases z'
     subst hb
     exact ⟨ha,by rw [List.length_map]; exact hl,vs,_,rv,ha⟩
    ·exact bO _ b u ((if_neg hb).symm.trans z)
   ·obtain ⟨ob,q⟩:=bT p xs m
    have hb:p≠a:=fun e=>by rw [e,hna] at q; cases q
    exact .inr ⟨ob,(if_neg hb).trans q⟩
   ·have hb:p≠a:=fun e=>by have:=bL p y q m; rw [e,hna] at this; cases this
    exact (if_neg hb).trans (bL p y q m)
   ·by_cases hb:b=a
    ·subst hb; exact hk
    ·exact bK b fun q=>z ((if_neg hb).trans q)
theorem zjY {l:PySem.W.OpenLaw} {n k:Nat} {q:Program} {loose:List Str} {XP:(Str->Option Value)->Heap->Prop} {YP:World->Heap->Prop} {d:DefRec} {K:Params->PySem.W.Frag} {sp:World->Sp} {x:Str}
  (hn:l.most=some n) (hn2:n<=sizeLine) (hdf:d.params.defaults=[]) (hr:Room k callerA) (hY:∀ (w:World) (h:Heap),YP w h->(K w.params).In h /\ ∀ p y q,(p,y,q)∈lamTab->h.get? p=some (PySem.W.tabObj #[]))
  (F:∀ (w:World) (mg:Str->Option Value) (fa:Addr) (h:Heap),(K w.params).In h->h.Ns mainGlobals mg->mg d.name=some (.ref fa)->CstOk (K w.params) /\ LamOk (K w.params) /\
   ∃ fd:FuncData,(∀ (s:Shared) (u:Value),BindsTo s fd ⟨[u],[]⟩ [(x,u)]) /\ ∀ base:Heap,(offC (K w.params)).In base->base.Ns mainGlobals mg->BAt mg base->FnOk l.prog w (offC (K w.params)) mg base CX0 k fa fd [x] (sp w))
  (hsp:∀ (w:World) (H:Hp) (a:Addr) (ns:List Int),ns.length<=n->LsD (offC (K w.params)) H a (ns.map V.int)->(∀ p xs,(p,xs)∈cstTab->TupT H p xs)->(∀ p y q,(p,y,q)∈lamTab->H p=some (.lam y q))->sp w [.ref a] H (fun v H'=>v=.bl true /\ Same H H') fun _ _ _=>False):
  PySem.W.WalkO q loose XP YP l.row.toRowW d [] (fun f vs=>PySem.call f vs):=by
 refine Att.zf2 hn hdf fun w s₀ s₁ mg mb fa o pm cd doc a vs ns G Y ho hd hcd hmg hobj hints hlen hg=>?_
 obtain ⟨KX,KT⟩:=hY w _ Y
 obtain ⟨CC,C,fd,hb,hF⟩:=F w mg fa _ KX G.T.g hmg
 exact zhZ CC C KX KT G.T.g G.T.b G.T.builtins G.T.nolimit G.T.bmain hg hobj hints (Nat.le_trans hlen hn2) hr hF hb (fun H hS hC hT=>hsp w H a ns hlen hS hC hT)
end L2
namespace L2
open PySem PySem.Spec PyProof.Rows
section
variable {X:Cx} {O:List Nat} {tg e o y:Expr} {ge go:DS->Option D} {apos cpos:Pos}
theorem HD.text {K:PySem.W.Frag} {H:Hp} {v:V} {x:Str} (h:HD K H v (.str x)):v=.str x:=by cases h; rfl
theorem ShD.text {K:PySem.W.Frag} {A:List Addr} {H:Hp} {v:V} {x:Str} (h:ShD K A H v (.str x)):v=.str x:=by
 rcases h with h | ⟨l,o,rfl,e,q⟩
 ·exact h.text
 ·cases q
noncomputable def textsD:List D->Option (List Str)
 | []=>some []
 | .str x :: l=>(textsD l).map (x :: ·)
 | _ :: _=>none
theorem zda:∀ {l:List D} {ns:List Str},textsD l=some ns->l=ns.map .str
 | [],_,h=>by cases h; rfl
 | d :: l,ns,h=>by
   cases d with
   | str x=>
     rw [textsD] at h
     obtain ⟨r,hr,rfl⟩:=Option.map_eq_some_iff.mp h
     rw [List.map_cons,zda hr]
   | _=>cases h
theorem HDs.toTexts {K:PySem.W.Frag} {H:Hp}:∀ {ns:List Str} {xs:List V},HDs K H xs (ns.map .str)->xs=ns.map .str
 | [],_,h=>by rw [List.map_nil] at h; cases h; rfl
 | n :: ns,_,h=>by
   rw [List.map_cons] at h
   cases h with
   | cons a t=>rw [a.text,HDs.toTexts t]; rfl
theorem zd1:∀ {ns:List Str} {us:List Value},Vals (ns.map V.str) us->∃ l:List (Str×Tok),us=strValues l /\ l.map (·.1)=ns
 | [],_,r=>by rw [List.map_nil] at r; cases r; exact ⟨[],rfl,rfl⟩
 | n :: ns,_,r=>by
   rw [List.map_cons] at r
   cases r with
   | cons h t=>
     obtain ⟨k,rfl⟩:=h
     obtain ⟨l,rfl,e⟩:=zd1 t
     exact ⟨(n,k) :: l,rfl,by rw [List.map_cons,e]⟩
noncomputable def rJoin (K:PySem.W.Frag):V->List V->Hp->VK->Prop:=fun x vs H Q=>∃ sep p ns,x=.str sep /\ vs=[.ref p] /\ SqL K H p (ns.map V.str) /\ JoinOk sep ns=true /\ Q (.str (Txt.join sep ns)) H
theorem zmE:MtR X "str.join" (rJoin X.K):=by
 intro pins s σ H x vs v us Q I rx rv h
 obtain ⟨sep,p,ns,rfl,rfl,hq,hj,q⟩:=h
 obtain ⟨t,rfl⟩:=rx
 obtain ⟨u,rfl,ru⟩:=vals1 rv
 cases ru
 obtain ⟨its,r',pl,hz⟩:=I.list hq
 obtain ⟨l,rfl,hl⟩:=zd1 r'
 exact SC.join pl.isList hl hj fun t' k=>⟨.str _,H,I.tok _,⟨_,rfl⟩,q⟩
noncomputable def gJoin (go ge:DS->Option D):DS->Option D:=fun δ=>(go δ).bind fun s=>(ge δ).bind fun x=>match s,x with
 | .str sep,.list l=>(textsD l).bind fun ns=>if JoinOk sep ns=true then some (.str (Txt.join sep ns)) else none
 | _,_=>none
set_option tactic.hygienic true in
theorem zlD (ho:PE X o (tSh X.K O go)) (he:PE X e (tE X.K O ge)) (hbase:attributeBase o "join" X.env (eval o X.env)=eval o X.env:=by rfl)
  (hfew:((backTo cpos (starEach [e] X.env)).all (fun x=> !x.1) && (backToKw cpos (keywordEach [] X.env)).all (fun x=>x.1.isSome) && decide ([e].length + ([]:List Keyword).length + (if ([]:List Keyword).isEmpty then 0 else 1) < 30))=true:=by rfl)
  (hline:(apos.endLine == cpos.line)=true:=by rfl) (hs:starEach [e] X.env=[(false,eval e X.env)]:=by rfl) (hs0:starEach ([]:List Expr) X.env=[]:=by rfl):
  PE X (.Call (.Attribute o "join" apos) [e] [] cpos) (tE X.K O (gJoin go ge)):=
 (zf6 PySem.F.plainAttrs_str PySem.F.slot_str_join PySem.F.type_str_join zmE ho (zab he za0 (by rw [hs,hs0])) hbase hfew hline (by rw [hs,hs0]) (by rw [hs0]; rfl)).mono fun σ H Q hh=>hh.e fun U A0 δ d R ed q=>by
  obtain ⟨s,e1,ed⟩:=bind1 ed
  obtain ⟨x,e2,ed⟩:=bind1 ed
  cases s with
  | str sep=>
    cases x with
    | list l=>
      obtain ⟨ns,e3,ed⟩:=bind1 ed
      split at ed
      ·rename_i hj
       cases ed
       refine ⟨U,A0,δ,_,R,e1,fun v H1 s1 h1=>?_⟩
       rw [h1.text]
       refine ⟨rfl,U,A0,δ,_,R.same s1,e2,fun w H2 s2 h2=>?_⟩
       cases h2 with
       | lst hq h=>
         rw [zda e3] at h
         rw [h.toTexts] at hq
         exact ⟨sep,_,ns,rfl,rfl,(hq.same zah).sq,hj,q _ H2 (s1.trans s2) (.str _)⟩
      ·cases ed
    | _=>cases ed
  | _=>cases ed
end
end L2
namespace L2
open PySem PySem.Spec PySem.W PyProof.Rows
theorem zes:entryFor table "proto.unchain"=some Builtin.«proto.unchain»:=entryFor_of_fast (by kernel_rfl)
section
variable {prog:Program} {w:World} {A:Around} {E:Value->Shared->Prop} {s:Shared}
theorem zfF {x:Addr} {ox:Obj} {fs:Array Value} {e:Value} {Q:Value->Shared->Prop} (ho:s.heap.get? x=some ox) (hd:ox.data=.fields fs) (h2:fs[2]?=some Value.none) (hQ:Q .none s):
  wpAny (model prog w) A (runValue (.builtin "proto.unchain" ⟨[e,.ref x,.ref x,.bool false],[]⟩)) Q E s:=by
 refine wpAny_runValue (codeAny_builtin zes ?_)
 unfold Builtin.«proto.unchain»
 show wpAny _ _ (field (.ref x) 2 >>= _) _ _ s
 refine wpAny_bind (wpAny_field ho hd h2 ?_)
 exact wpAny_pure hQ
theorem zgu {α:Type} {a x:Addr} {ox oa:Obj} {fs va:Array Value} {Q:α->Shared->Prop} (hh:A.handled=some (.ref x)) (hne:x≠a) (ho:s.heap.get? x=some ox) (hd:ox.data=.fields fs) (h2:fs[2]?=some Value.none)
  (hoa:s.heap.get? a=some oa) (hda:oa.data=.fields va) (hsz:2 < va.size) (hE:E (.ref a) { s with heap:=s.heap.update a (Obj.mapFields (·.setIfInBounds 2 (.ref x))) }):
  wpAny (model prog w) A (raiseNew (α:=α) (.ref a)) Q E s:=by
 unfold raiseNew
 refine wpAny_bind (wpAny_handled ?_)
 rw [hh]
 have hb:(Value.ref x != Value.ref a)=true:=bne_iff_ne.mpr fun e=>hne (Value.ref.inj e)
 show wpAny _ _ (if (Value.ref x != Value.ref a)=true then _ else _) _ _ s
 rw [if_pos hb]
 refine wpAny_bind (wpAny_holding (zfF ho hd h2 ?_))
 refine wpAny_bind ?_
 unfold updateField
 refine wpAny_bind (wpAny_load hoa ?_)
 rw [hda]
 dsimp only
 rw [if_pos hsz]
 refine wpAny_update hoa ?_
 exact wpAny_throw hE
theorem zej {it x:Addr} {ox:Obj} {fs:Array Value} {y left step:Int} {Q:Option Value->Shared->Prop} (hh:A.handled=some (.ref x)) (ho:s.heap.get? x=some ox) (hd:ox.data=.fields fs) (h2:fs[2]?=some Value.none)
  (hit:IsRangeIter s.heap it y left step) (hleft:left<=0) (hQ:∀ h',Heap.ExtBut it s.heap h'->Q none { s with heap:=h' }):wpAny (model prog w) A (pyNext (.ref it)) Q E s:=by
 have hT:s.TypeIs (.ref it) "range_iterator":=⟨_,hit,rfl⟩
 unfold pyNext
 refine wpAny_bind (wpAny_attempt (wpAny_callSpecial?_slot (name:=Str.ofString "__next__") hT F.slot_range_iterator_next
  (wpAny_call_entry F.slot_range_iterator_next hT F.entry_range_iterator_next ?_ (F.args_range_iterator_next_1 _))))
 show wpAny _ _ (field (.ref it) 0 >>= _) _ _ s
 refine wpAny_bind (wpAny_field hit rfl (x:=rawInt y) rfl ?_)
 show wpAny _ _ (field (.ref it) 1 >>= _) _ _ s
 refine wpAny_bind (wpAny_field hit rfl (x:=rawInt left) rfl ?_)
 show wpAny _ _ (field (.ref it) 2 >>= _) _ _ s
 refine wpAny_bind (wpAny_field hit rfl (x:=rawInt step) rfl ?_)
 show wpAny _ _ (if left<=0 then _ else _) _ _ s
 rw [if_pos hleft]
 refine wpAny_bind (wpAny_rule ?_)
 refine wpAny_bind ?_
 show wpAny _ _ (newExc (.type "StopIteration") [] >>= _) _ _ _
 refine wpAny_bind ?_
 simp only [newExc,newTuple]
 refine wpAny_bind (wpAny_newObj_type ?_ (by size_fits))
 refine wpAny_bind (m:=firstArgMember _ _) (wpAny_of_eq (a:=Value.none) (by first | rfl | (simp only [firstArgMember]; rfl)) ?_)
 refine wpAny_newObj_type ?_ (by size_fits)
 have hx:x < s.heap.objs.size:=Heap.lt_size ho
 refine zgu (x:=x) hh ?_ (Heap.get?_push_of_some _ (Heap.get?_push_of_some _ ho)) hd h2 (Heap.get?_push_size _ rfl) rfl (by rw [Array.size_append]; exact Nat.lt_of_lt_of_le (show 2 < 6 by decide) (Nat.le_add_right _ _)) ?_
 ·intro e
  rw [e] at hx
  have:s.heap.objs.size<=(s.heap.push { cls:=.type "tuple",data:=.seq [].toArray }).objs.size:=by simp [Heap.push]
  exact absurd (Nat.lt_of_lt_of_le hx this) (Nat.lt_irrefl _)
 ·refine wpAny_bind (wpAny_isInstance (T:="StopIteration") (b:=true) ⟨_,Heap.get?_update_self _ (Heap.get?_push_size _ rfl) ?_,?_⟩ isSubtype_stop ?_)
  ·exact Obj.isFreed_of_fields (Obj.data_mapFields rfl _)
  ·exact (Obj.cls_mapFields ..).trans rfl
  ·refine wpAny_pure (hQ _ fun b o hb e=>?_)
   have e2:=Heap.get?_push_of_some { cls:=.type "tuple",data:=.seq [].toArray } e
   refine (((Heap.SameBut.update ..).2 b ?_).trans (Heap.get?_push_of_some _ e2))
   intro z
   have:=Heap.lt_size e2
   rw [z] at this
   exact absurd this (Nat.lt_irrefl _)
end
end L2
namespace L2
open PySem
noncomputable def Nx0 (M:Model) (Γ:Ctx) (p:Pos) (t:Sem Fin) (s:Shared) (e:End) (s':Shared):Prop:=match t with
 | .pure (.done f)=>e=.ret (.ok f) /\ s'=s
 | .pure (.again c)=>Runs M (Γ.goto c) p (M.den c) [] s e s'
 | .raise x=>e=.ret (.error x) /\ s'=s
 | .rule _ k=>Runs M Γ p (k ()) [] s e s'
 | .at p' k=>Runs M Γ p' (k ()) [] s e s'
 | .load a _ k=>∃ o,s.heap.get? a=some o /\ Runs M Γ p (k o) [] s e s'
 | .update a _ f k=>Runs M Γ p (k ()) [] { s with heap:=s.heap.update a f } e s'
 | .loadIfAlive a k=>Runs M Γ p (k (s.heap.get? a)) [] s e s'
 | .point _ k=>Runs M Γ p (k ()) [] s e s'
 | .alloc o k=>Runs M Γ p (k s.heap.objs.size) [] { s with heap:=s.heap.push o } e s'
 | .fresh k=>Runs M Γ p (k s.toks) [] { s with toks:=s.toks + 1 } e s'
 | .ask k=>Runs M Γ p (k ⟨M.prog,M.w.params⟩) [] s e s'
 | .choose src n k=>Runs M Γ p (k (M.w.draws src (s.drawn.get src) % n)) [] { s with drawn:=s.drawn.bump src } e s'
 | .os q _ k=>Runs M Γ p (k (Os.step s.os q).2) [] { s with os:=(Os.step s.os q).1 } e s'
 | .handled own k=>Runs M Γ p (k (if own then Γ.own else Γ.handled)) [] s e s'
 | .genState g k=>∃ st,s.gens[g]?=some st /\ Runs M Γ p (k st.seen) [] s e s'
 | .stack k=>Runs M Γ p (k ((Γ.code,p) :: Γ.below)) [] s e s'
 | .thread k=>Runs M Γ p (k 0) [] s e s'
 | .newGen c k=>Runs M Γ p (k s.gens.size) [] { s with gens:=s.gens.push (.fresh c) } e s'
 | .call c h g l k=>∃ e1 s1,Runs M (Γ.enter c h p) p (M.den c) [] s e1 s1 /\ ((∃ r,e1=.ret r /\ Runs M Γ p (k r) [] s1 e s') \/ ∃ v g₀ l₀ k₀ c₀ p₀ fs,e1=.susp v g₀ l₀ k₀ c₀ p₀ fs /\ s'=s1 /\ e=.susp v g₀ l₀ k₀ c₀ p₀ (fs ++ [.ret k h g l Γ.code p []]))
 | .yield v g l k=>e=.susp v g l k Γ.code p [] /\ s'=s
 | .resume g r _ k=>∃ st,s.gens[g]?=some st /\ ((∃ c,st=.fresh c /\ ((r=.send .none /\ ∃ e1 s1,Runs M (Γ.wake c p) p (M.den c) [] (s.setGen g .running) e1 s1 /\ Runs M Γ p (k e1.result) [] (s1.setGen g e1.genState) e s') \/ (∃ v,r=.send v /\ v≠.none /\ Runs M Γ p (k .justStarted) [] s e s') \/ ∃ x,r=.throw x /\ Runs M Γ p (k (.raised x)) [] (s.setGen g .finished) e s')) \/
   (∃ k₀ l₀ c₀ p₀ fs cl,st=.suspended k₀ l₀ c₀ p₀ fs cl /\ ∃ e1 s1,Runs M (Γ.wake c₀ p) p₀ (k₀ r) fs (s.setGen g .running) e1 s1 /\ Runs M Γ p (k e1.result) [] (s1.setGen g e1.genState) e s') \/
   (st=.running /\ Runs M Γ p (k .running) [] s e s') \/ (st=.finished /\ Runs M Γ p (k .finished) [] s e s'))
 | _=>False
noncomputable def NxF (M:Model) (Γ:Ctx) (p:Pos) (t:Sem Fin) (F:Frame) (fs:List Frame) (s:Shared) (e:End) (s':Shared):Prop:=∃ e1 s1,Runs M (Γ.over (F :: fs)) p t [] s e1 s1 /\
 ((∃ k h g l c₁ p₁ kp r,F=.ret k h g l c₁ p₁ kp /\ e1=.ret r /\ Runs M (Γ.goto c₁) p₁ (k r) fs s1 e s') \/ (∃ g k l c₁ p₁ r,F=.gen g k l c₁ p₁ /\ e1=.ret r /\ Runs M (Γ.goto c₁) p₁ (k (End.ret r).result) fs (s1.setGen g .finished) e s') \/
  ∃ v g₀ l₀ k₀ c₀ p₀ fs₀,e1=.susp v g₀ l₀ k₀ c₀ p₀ fs₀ /\ ((splitAtGen (F :: fs)=none /\ s'=s1 /\ e=.susp v g₀ l₀ k₀ c₀ p₀ (fs₀ ++ F :: fs)) \/
    ∃ pre g k c₁ p₁ rest,splitAtGen (F :: fs)=some (pre,(g,k,c₁,p₁),rest) /\ Runs M (Γ.goto c₁) p₁ (k (.yielded v)) rest (s1.setGen g (End.susp v g₀ l₀ k₀ c₀ p₀ (fs₀ ++ pre)).genState) e s'))
noncomputable def Nxt (M:Model) (Γ:Ctx) (p:Pos) (t:Sem Fin) (fs:List Frame) (s:Shared) (e:End) (s':Shared):Prop:=match fs with
 | []=>Nx0 M Γ p t s e s'
 | F :: fs=>NxF M Γ p t F fs s e s'
theorem zv {M:Model} {Γ:Ctx} {p:Pos} {t:Sem Fin} {fs:List Frame} {s:Shared} {e:End} {s':Shared} (h:Runs M Γ p t fs s e s'):Nxt M Γ p t fs s e s':=by
 cases h with
 | done=>exact ⟨rfl,rfl⟩
 | raise=>exact ⟨rfl,rfl⟩
 | again _ r=>exact r
 | rule r=>exact r
 | «at» r=>exact r
 | load g r=>exact ⟨_,g,r⟩
 | update _ r=>exact r
 | loadIfAlive r=>exact r
 | point r=>exact r
 | alloc r=>exact r
 | fresh r=>exact r
 | ask r=>exact r
 | choose _ r=>exact r
 | os r=>exact r
 | handled r=>exact r
 | genState g r=>exact ⟨_,g,r⟩
 | stack r=>exact r
 | thread r=>exact r
 | newGen r=>exact r
 | call a b=>exact ⟨_,_,a,.inl ⟨_,rfl,b⟩⟩
 | callSusp a=>exact ⟨_,_,a,.inr ⟨_,_,_,_,_,_,_,rfl,rfl,rfl⟩⟩
 | yield=>exact ⟨rfl,rfl⟩
 | resumeFresh g a _ b=>exact ⟨_,g,.inl ⟨_,rfl,.inl ⟨rfl,_,_,a,b⟩⟩⟩
 | resumeSuspended g a _ b=>exact ⟨_,g,.inr (.inl ⟨_,_,_,_,_,_,rfl,_,_,a,b⟩)⟩
 | resumeJustStarted g n b=>exact ⟨_,g,.inl ⟨_,rfl,.inr (.inl ⟨_,rfl,n,b⟩)⟩⟩
 | resumeThrowFresh g b=>exact ⟨_,g,.inl ⟨_,rfl,.inr (.inr ⟨_,rfl,b⟩)⟩⟩
 | resumeRunning g b=>exact ⟨_,g,.inr (.inr (.inl ⟨rfl,b⟩))⟩
 | resumeFinished g b=>exact ⟨_,g,.inr (.inr (.inr ⟨rfl,b⟩))⟩
 | segRet a b=>exact ⟨_,_,a,.inl ⟨_,_,_,_,_,_,_,_,rfl,rfl,b⟩⟩
 | segGen a b=>exact ⟨_,_,a,.inr (.inl ⟨_,_,_,_,_,_,rfl,rfl,b⟩)⟩
 | segSuspOut g a=>exact ⟨_,_,a,.inr (.inr ⟨_,_,_,_,_,_,_,rfl,.inl ⟨g,rfl,rfl⟩⟩)⟩
 | segSuspGen g a _ b=>exact ⟨_,_,a,.inr (.inr ⟨_,_,_,_,_,_,_,rfl,.inr ⟨_,_,_,_,_,_,g,b⟩⟩)⟩
theorem zeB {M:Model} {Γ:Ctx} {p:Pos} {t:Sem Fin} {fs:List Frame} {s:Shared} {e:End} {s':Shared} (h:Runs M Γ p t fs s e s'):∀ {e2:End} {s2:Shared},Runs M Γ p t fs s e2 s2->e=e2 /\ s'=s2:=by
 induction h with
 | done=>intro e2 s2 h2; obtain ⟨rfl,rfl⟩:=zv h2; exact ⟨rfl,rfl⟩
 | raise=>intro e2 s2 h2; obtain ⟨rfl,rfl⟩:=zv h2; exact ⟨rfl,rfl⟩
 | again _ _ ih=>intro e2 s2 h2; exact ih (zv h2)
 | rule _ ih=>intro e2 s2 h2; exact ih (zv h2)
 | «at» _ ih=>intro e2 s2 h2; exact ih (zv h2)
 | load g _ ih=>intro e2 s2 h2; obtain ⟨o,g2,r⟩:=zv h2; cases g.symm.trans g2; exact ih r
 | update _ _ ih=>intro e2 s2 h2; exact ih (zv h2)
 | loadIfAlive _ ih=>intro e2 s2 h2; exact ih (zv h2)
 | point _ ih=>intro e2 s2 h2; exact ih (zv h2)
 | alloc _ ih=>intro e2 s2 h2; exact ih (zv h2)
 | fresh _ ih=>intro e2 s2 h2; exact ih (zv h2)
 | ask _ ih=>intro e2 s2 h2; exact ih (zv h2)
 | choose _ _ ih=>intro e2 s2 h2; exact ih (zv h2)
 | os _ ih=>intro e2 s2 h2; exact ih (zv h2)
 | handled _ ih=>intro e2 s2 h2; exact ih (zv h2)
 | genState g _ ih=>intro e2 s2 h2; obtain ⟨o,g2,r⟩:=zv h2; cases g.symm.trans g2; exact ih r
 | stack _ ih=>intro e2 s2 h2; exact ih (zv h2)
 | thread _ ih=>intro e2 s2 h2; exact ih (zv h2)
 | newGen _ ih=>intro e2 s2 h2; exact ih (zv h2)
 | call _ _ ih1 ih2=>
   intro e2 s2 h2
   obtain ⟨e1,s1,a,⟨r,rfl,b⟩ | ⟨_,_,_,_,_,_,_,rfl,_,_⟩⟩:=zv h2
   ·obtain ⟨x,rfl⟩:=ih1 a; cases x; exact ih2 b
   ·obtain ⟨x,_⟩:=ih1 a; cases x
 | callSusp _ ih1=>
   intro e2 s2 h2
   obtain ⟨e1,s1,a,⟨r,rfl,b⟩ | ⟨_,_,_,_,_,_,_,rfl,rfl,rfl⟩⟩:=zv h2
   ·obtain ⟨x,_⟩:=ih1 a; cases x
   ·obtain ⟨x,rfl⟩:=ih1 a; cases x; exact ⟨rfl,rfl⟩
 | yield=>intro e2 s2 h2; obtain ⟨rfl,rfl⟩:=zv h2; exact ⟨rfl,rfl⟩
 | resumeFresh g _ _ _ ih1 ih2=>
   intro e2 s2 h2
   obtain ⟨st,g2,o⟩:=zv h2
   cases g.symm.trans g2
   rcases o with ⟨c,z,⟨_,e1,s1,a,b⟩ | ⟨v,z2,n,_⟩ | ⟨x,z2,_⟩⟩ | ⟨_,_,_,_,_,_,z,_⟩ | ⟨z,_⟩ | ⟨z,_⟩
   ·cases z; obtain ⟨rfl,rfl⟩:=ih1 a; exact ih2 b
   ·cases z2; exact (n rfl).elim
   ·cases z2
   ·cases z
   ·cases z
   ·cases z
 | resumeSuspended g _ _ _ ih1 ih2=>
   intro e2 s2 h2
   obtain ⟨st,g2,o⟩:=zv h2
   cases g.symm.trans g2
   rcases o with ⟨c,z,_⟩ | ⟨_,_,_,_,_,_,z,e1,s1,a,b⟩ | ⟨z,_⟩ | ⟨z,_⟩
   ·cases z
   ·cases z; obtain ⟨rfl,rfl⟩:=ih1 a; exact ih2 b
   ·cases z
   ·cases z
 | resumeJustStarted g n _ ih=>
   intro e2 s2 h2
   obtain ⟨st,g2,o⟩:=zv h2
   cases g.symm.trans g2
   rcases o with ⟨c,z,⟨z2,_⟩ | ⟨v,z2,_,b⟩ | ⟨x,z2,_⟩⟩ | ⟨_,_,_,_,_,_,z,_⟩ | ⟨z,_⟩ | ⟨z,_⟩
   ·cases z2; exact (n rfl).elim
   ·exact ih b
   ·cases z2
   ·cases z
   ·cases z
   ·cases z
 | resumeThrowFresh g _ ih=>
   intro e2 s2 h2
   obtain ⟨st,g2,o⟩:=zv h2
   cases g.symm.trans g2
   rcases o with ⟨c,z,⟨z2,_⟩ | ⟨v,z2,_,_⟩ | ⟨x,z2,b⟩⟩ | ⟨_,_,_,_,_,_,z,_⟩ | ⟨z,_⟩ | ⟨z,_⟩
   ·cases z2
   ·cases z2
   ·cases z2; exact ih b
   ·cases z
   ·cases z
   ·cases z
 | resumeRunning g _ ih=>
   intro e2 s2 h2
   obtain ⟨st,g2,o⟩:=zv h2
   cases g.symm.trans g2
   rcases o with ⟨c,z,_⟩ | ⟨_,_,_,_,_,_,z,_⟩ | ⟨_,b⟩ | ⟨z,_⟩
   ·cases z
   ·cases z
   ·exact ih b
   ·cases z
 | resumeFinished g _ ih=>
   intro e2 s2 h2
   obtain ⟨st,g2,o⟩:=zv h2
   cases g.symm.trans g2
   rcases o with ⟨c,z,_⟩ | ⟨_,_,_,_,_,_,z,_⟩ | ⟨z,_⟩ | ⟨_,b⟩
   ·cases z
   ·cases z
   ·cases z
   ·exact ih b
 | segRet _ _ ih1 ih2=>
   intro e2 s2 h2
   obtain ⟨e1,s1,a,o⟩:=zv h2
   obtain ⟨rfl,rfl⟩:=ih1 a
   rcases o with ⟨_,_,_,_,_,_,_,_,z,z2,b⟩ | ⟨_,_,_,_,_,_,z,_,_⟩ | ⟨_,_,_,_,_,_,_,z,_⟩
   ·cases z; cases z2; exact ih2 b
   ·cases z
   ·cases z
 | segGen _ _ ih1 ih2=>
   intro e2 s2 h2
   obtain ⟨e1,s1,a,o⟩:=zv h2
   obtain ⟨rfl,rfl⟩:=ih1 a
   rcases o with ⟨_,_,_,_,_,_,_,_,z,_,_⟩ | ⟨_,_,_,_,_,_,z,z2,b⟩ | ⟨_,_,_,_,_,_,_,z,_⟩
   ·cases z
   ·cases z; cases z2; exact ih2 b
   ·cases z
 | segSuspOut g _ ih1=>
   intro e2 s2 h2
   obtain ⟨e1,s1,a,o⟩:=zv h2
   obtain ⟨rfl,rfl⟩:=ih1 a
   rcases o with ⟨_,_,_,_,_,_,_,_,_,z,_⟩ | ⟨_,_,_,_,_,_,_,z,_⟩ | ⟨_,_,_,_,_,_,_,z,⟨_,z2,z3⟩ | ⟨_,_,_,_,_,_,g2,_⟩⟩
   ·cases z
   ·cases z
   ·cases z; cases z2; cases z3; exact ⟨rfl,rfl⟩
   ·cases g.symm.trans g2
 | segSuspGen g _ _ _ ih1 ih2=>
   intro e2 s2 h2
   obtain ⟨e1,s1,a,o⟩:=zv h2
   obtain ⟨rfl,rfl⟩:=ih1 a
   rcases o with ⟨_,_,_,_,_,_,_,_,_,z,_⟩ | ⟨_,_,_,_,_,_,_,z,_⟩ | ⟨_,_,_,_,_,_,_,z,⟨g2,_,_⟩ | ⟨_,_,_,_,_,_,g2,b⟩⟩
   ·cases z
   ·cases z
   ·cases g.symm.trans g2
   ·cases z; cases g.symm.trans g2; exact ih2 b
theorem zjf {M:Model} {Γ:Ctx} {p:Pos} {g:Nat} {r:Resume} {s:Shared} {a b:GenResult} {s1 s2:Shared} (h1:Wakes M Γ p g r s a s1) (h2:Wakes M Γ p g r s b s2):a=b /\ s1=s2:=by
 unfold Wakes at h1 h2
 cases hg:s.gens[g]? with
 | none=>rw [hg] at h1; exact h1.elim
 | some gs=>
   rw [hg] at h1 h2
   cases gs with
   | fresh c=>
     cases r with
     | send v=>
       cases v with
       | none=>
         obtain ⟨e1,t1,x1,_,rfl,rfl⟩:=h1
         obtain ⟨e2,t2,x2,_,rfl,rfl⟩:=h2
         obtain ⟨rfl,rfl⟩:=zeB x1 x2
         exact ⟨rfl,rfl⟩
       | _=>exact ⟨h1.1.trans h2.1.symm,h1.2.trans h2.2.symm⟩
     | throw x=>exact ⟨h1.1.trans h2.1.symm,h1.2.trans h2.2.symm⟩
   | suspended k0 l0 c0 p0 fs cl=>
     obtain ⟨e1,t1,x1,_,rfl,rfl⟩:=h1
     obtain ⟨e2,t2,x2,_,rfl,rfl⟩:=h2
     obtain ⟨rfl,rfl⟩:=zeB x1 x2
     exact ⟨rfl,rfl⟩
   | running=>exact ⟨h1.1.trans h2.1.symm,h1.2.trans h2.2.symm⟩
   | finished=>exact ⟨h1.1.trans h2.1.symm,h1.2.trans h2.2.symm⟩
theorem zm6 {α:Type} (M:Model) (Γ:Ctx) (t:Sem α):∀ {Q1 Q2:α->Pos->Shared->Prop} {E1 E2:Value->Pos->Shared->Prop} {p:Pos} {s:Shared},Sem.wp M Γ t Q1 E1 p s->Sem.wp M Γ t Q2 E2 p s->
  Sem.wp M Γ t (fun a p s=>Q1 a p s /\ Q2 a p s) (fun e p s=>E1 e p s /\ E2 e p s) p s:=by
 induction t with
 | pure a=>intro _ _ _ _ _ _ h1 h2; rw [Sem.wp] at h1 h2 ⊢; exact ⟨h1,h2⟩
 | raise e=>intro _ _ _ _ _ _ h1 h2; rw [Sem.wp] at h1 h2 ⊢; exact ⟨h1,h2⟩
 | load a part k ih=>
   intro _ _ _ _ _ _ h1 h2
   rw [Sem.wp] at h1 h2 ⊢
   obtain ⟨o,g,h1⟩:=h1
   obtain ⟨o2,g2,h2⟩:=h2
   rw [g] at g2; cases g2
   exact ⟨o,g,ih _ h1 h2⟩
 | update a part f k ih=>intro _ _ _ _ _ _ h1 h2; rw [Sem.wp] at h1 h2 ⊢; exact ⟨h1.1,ih _ h1.2 h2.2⟩
 | choose src n k ih=>intro _ _ _ _ _ _ h1 h2; rw [Sem.wp] at h1 h2 ⊢; exact ⟨h1.1,ih _ h1.2 h2.2⟩
 | call c h g l k ih=>
   intro _ _ _ _ _ _ h1 h2
   rw [Sem.wp] at h1 h2 ⊢
   obtain ⟨r,s1,x1,h1⟩:=h1
   obtain ⟨r2,s2,x2,h2⟩:=h2
   obtain ⟨e,rfl⟩:=zeB x1 x2
   cases e
   exact ⟨r,s1,x1,ih _ h1 h2⟩
 | genState g k ih=>
   intro _ _ _ _ _ _ h1 h2
   rw [Sem.wp] at h1 h2 ⊢
   obtain ⟨o,g,h1⟩:=h1
   obtain ⟨o2,g2,h2⟩:=h2
   rw [g] at g2; cases g2
   exact ⟨o,g,ih _ h1 h2⟩
 | resume g r l k ih=>
   intro _ _ _ _ _ _ h1 h2
   rw [Sem.wp] at h1 h2 ⊢
   obtain ⟨r,s1,x1,h1⟩:=h1
   obtain ⟨r2,s2,x2,h2⟩:=h2
   obtain ⟨rfl,rfl⟩:=zjf x1 x2
   exact ⟨r,s1,x1,ih _ h1 h2⟩
 | unsupported | finish | yield | fork | await | register=>intro _ _ _ _ _ _ h1 _; rw [Sem.wp] at h1; exact h1.elim
 | rule _ k ih | «at» _ k ih | alloc _ k ih | loadIfAlive _ k ih | point _ k ih | fresh k ih | ask k ih | os _ _ k ih | handled _ k ih | newGen _ k ih | stack k ih | thread k ih=>intro _ _ _ _ _ _ h1 h2; rw [Sem.wp] at h1 h2 ⊢; exact ih _ h1 h2
theorem zbN {α:Type} {M:Model} {A:Around} {t:Sem α} {Q1 Q2:α->Shared->Prop} {E1 E2:Value->Shared->Prop} {s:Shared} (h1:wpAny M A t Q1 E1 s) (h2:wpAny M A t Q2 E2 s):
  wpAny M A t (fun a s=>Q1 a s /\ Q2 a s) (fun e s=>E1 e s /\ E2 e s) s:=fun Γ p hΓ=>zm6 M Γ t (h1 Γ p hΓ) (h2 Γ p hΓ)
end L2
namespace L2
open PySem PySem.Spec PySem.W PyProof.Rows
section
variable {M:Model} {A:Around} {E:Value->Shared->Prop} {s:Shared} {base:Heap} {env:Env} {outer:List Env} {L e:Addr} {cls a0:Value}
theorem NoCtx.upd {h:Heap} {a e:Addr} {i:Nat} {v:Value} (x:NoCtx h e) (hi:a≠e \/ i≠2):NoCtx (h.update a (Obj.mapFields (·.setIfInBounds i v))) e:=by
 obtain ⟨o,fs,ho,hd,h2⟩:=x
 by_cases z:a=e
 ·subst z
  have hi2:i≠2:=hi.resolve_left fun q=>q rfl
  refine ⟨_,_,Heap.get?_update_self _ ho (Obj.isFreed_of_fields (Obj.data_mapFields hd _)),Obj.data_mapFields hd _,?_⟩
  rw [Array.getElem?_setIfInBounds_ne hi2]; exact h2
 ·exact ⟨o,fs,(Heap.get?_update_other _ _ z).trans ho,hd,h2⟩
theorem NoCtx.push {h:Heap} {e:Addr} (x:NoCtx h e) (o:Obj):NoCtx (h.push o) e:=let ⟨p,fs,ho,r⟩:=x; ⟨p,fs,Heap.get?_push_of_some _ ho,r⟩
theorem zfd {oe:Obj} {vs:Array Value} {head:Value} {b:Bool} {Q:Unit->Shared->Prop} (hfr:A.frames=some (env :: outer)) (hl:s.heap.FunFrames base (env :: outer)) (hf:env.frame=some L)
  (he:s.heap.get? e=some oe) (hd:oe.data=.fields vs) (hsz:1 < vs.size) (h2:vs[2]?=some Value.none)
  (h:∀ h' T oT ts,NoCtx h' e->(∃ o ws,h'.get? e=some o /\ o.data=.fields ws /\ ws[1]?=some (.ref T))->h'.get? T=some oT->oT.data=.fields ts->3 < ts.size->T≠e->Q () { s with heap:=h' }):
  wpAny M A (do let a <- frameOf env; let pl <- entryPlaceOf L b; let c <- EntryCells.newEntry head a .none (rawInt L) .none pl; setField (.ref e) 1 c) Q E s:=by
 have ne:e∉(env :: outer).filterMap (·.frame):=fun hm=>by
  obtain ⟨_,o,ho,hnf⟩:=hl.mem hm
  rw [he] at ho; cases ho; exact hnf vs hd
 refine wpAny_bind (wpAny_frameOf_fun hfr hl hf fun h1 hs=>?_)
 refine wpAny_bind (wpAny_entryPlaceOf fun pl hpl=>?_)
 unfold EntryCells.newEntry newFields
 refine wpAny_bind (wpAny_newObj_type ?_ (hpl.sizeOk5 _ _ _ _ _))
 have e1:h1.get? e=some oe:=(hs.2.1 e ne).trans he
 have lt:=Heap.lt_size e1
 have hT:=(Heap.get?_update_other (h1.push { cls:=.type "traceback",dict:=none,data:=.fields ([head,.ref L,.none,rawInt L,.none] ++ (if pl.isEmpty then List.replicate 6 Value.none else pl)).toArray }) (Obj.mapFields (·.setIfInBounds 1 (Value.ref h1.objs.size))) (Nat.ne_of_lt lt)).trans (Heap.get?_push_size h1 rfl)
 refine wpAny_setField (Heap.get?_push_of_some _ e1) hd hsz (h _ h1.objs.size _ _ ?_ ?_ hT rfl ?_ (Nat.ne_of_gt lt))
 ·exact NoCtx.upd (NoCtx.push ⟨oe,vs,e1,hd,h2⟩ _) (.inr (by decide))
 ·exact ⟨_,_,Heap.get?_update_self _ (Heap.get?_push_of_some _ e1) (Obj.isFreed_of_fields (Obj.data_mapFields hd _)),Obj.data_mapFields hd _,by simp [hsz]⟩
 ·simp only [List.size_toArray,List.length_append,List.length_cons,List.length_nil]; omega
theorem zga {Q:Unit->Shared->Prop} {oe oT:Obj} {vs ts:Array Value} {T:Addr} {fl:Option Addr} (x:NoCtx s.heap e) (he:s.heap.get? e=some oe) (hd:oe.data=.fields vs) (h1:vs[1]?=some (.ref T)) (hT:s.heap.get? T=some oT) (hdT:oT.data=.fields ts) (hz:3 < ts.size)
  (h:∀ h',NoCtx h' e->Q () { s with heap:=h' }):wpAny M A (setFlight (.ref e) fl) Q E s:=by
 unfold setFlight
 refine wpAny_bind (wpAny_field he hd h1 ?_)
 rw [if_pos (show (Value.ref T != Value.none)=true from by simp)]
 exact wpAny_setField hT hdT hz (h _ (x.upd (.inr (by decide))))
theorem zg6 {Q:Unit->Shared->Prop} (hfr:A.frames=some (env :: outer)) (hf:env.frame=some L) (hfl:Heap.FlyingW base (env :: outer) e cls a0 s.heap) (x:NoCtx s.heap e)
  (h:∀ h' T oT ts,NoCtx h' e->(∃ o ws,h'.get? e=some o /\ o.data=.fields ws /\ ws[1]?=some (.ref T))->h'.get? T=some oT->oT.data=.fields ts->3 < ts.size->T≠e->Q () { s with heap:=h' }):wpAny M A (noteFrame (.ref e) env) Q E s:=by
 obtain ⟨f1,f2,hl,oe,vs,T,oT,ts,he,_,hd,h1,hnT,hTe,hT,hdT,h3⟩:=hfl
 obtain ⟨o',fs,ho',hd',h2⟩:=id x
 rw [he] at ho'; cases ho'
 rw [hd] at hd'; cases hd'
 unfold noteFrame
 simp only [hf]
 refine wpAny_bind (wpAny_field he hd h1 ?_)
 rw [if_pos (show (Value.ref T != Value.none)=true from by simp)]
 refine wpAny_bind (wpAny_field hT hdT h3 ?_)
 rw [if_neg (show ¬ ((Value.none == rawInt L)=true) from by simp [rawInt])]
 refine wpAny_bind (wpAny_setField hT hdT (Array.getElem?_eq_some_iff.mp h3).1 ?_)
 have ot:∀ b,b≠T->(s.heap.update T (Obj.mapFields (·.setIfInBounds 3 Value.none))).get? b=s.heap.get? b:=fun b hb=>Heap.get?_update_other _ _ (Ne.symm hb)
 exact zfd hfr (hl.of_keeps fun b o hb hnf=>⟨o,(ot b fun q=>by rw [q,hT] at hb; cases hb; exact hnf ts hdT).trans hb,rfl⟩) hf ((ot e (Ne.symm hTe)).trans he) hd (Array.getElem?_eq_some_iff.mp h1).1 h2 h
theorem zhF {Q:Unit->Shared->Prop} (hfr:A.frames=some (env :: outer)) (hf:env.frame=some L) (hfl:Heap.FlyingW base (env :: outer) e cls a0 s.heap) (x:NoCtx s.heap e) (h:∀ h',NoCtx h' e->Q () { s with heap:=h' }):wpAny M A (leaving env (.ref e)) Q E s:=by
 unfold leaving
 refine wpAny_bind (zg6 hfr hf hfl x fun h' T oT ts x' ⟨o,ws,k1,k2,k3⟩ k4 k5 k6 _=>?_)
 exact zga (s:={ s with heap:=h' }) x' k1 k2 k3 k4 k5 k6 fun h2 x2=>h h2 x2
theorem zjN {h0:Heap} {args:List Value} {Q:Unit->Shared->Prop} (hfr:A.frames=some (env :: outer)) (hf:env.frame=some L) (hl:h0.FunFrames base (env :: outer)) (hx:Heap.MadeExcOf h0 s.heap e cls args) (h:∀ h',NoCtx h' e->Q () { s with heap:=h' }):wpAny M A (leaving env (.ref e)) Q E s:=by
 obtain ⟨t,he,_,_⟩:=hx.there
 unfold leaving noteFrame
 simp only [hf]
 refine wpAny_bind (wpAny_bind (wpAny_field he rfl (x:=Value.none) rfl ?_))
 rw [if_neg (by decide)]
 refine zfd hfr (hl.of_keeps fun b o hb _=>⟨o,hx.keeps b o hb,rfl⟩) hf he rfl (Nat.lt_of_lt_of_le (show 1 < 6 by decide) (Nat.le_refl _)) rfl fun h' T oT ts x' ⟨o,ws,k1,k2,k3⟩ k4 k5 k6 _=>?_
 exact zga (s:={ s with heap:=h' }) x' k1 k2 k3 k4 k5 k6 fun h2 x2=>h h2 x2
theorem zhM {Q:Unit->Shared->Prop} (hfr:A.frames=some (env :: outer)) (hf:env.frame=some L) (hfl:Heap.FlyingW base (env :: outer) e cls a0 s.heap) (x:NoCtx s.heap e)
  (hQ:∀ h',Heap.HeldW base (env :: outer) e cls a0 L h'->NoCtx h' e->s.heap.UpToSlots h'->Q () { s with heap:=h' }):wpAny M A (noteFrame (.ref e) env) Q E s:=
 wpAny_mono (zbN (wpAny_looks_onW (E:=fun _ _=>False) (Q:=fun _ s2=>∃ h2,s2={ s with heap:=h2 } /\ Heap.HeldW base (env :: outer) e cls a0 L h2 /\ s.heap.UpToSlots h2) hfr hf hfl fun h2 k1 k2=>⟨h2,rfl,k1,k2⟩)
  (zg6 (E:=fun _ _=>False) (Q:=fun _ s2=>NoCtx s2.heap e) hfr hf hfl x fun _ _ _ _ k _ _ _ _ _=>k)) (fun _ s2 ⟨⟨h2,e2,k1,k2⟩,nc⟩=>by subst e2; exact hQ h2 k1 nc k2) fun _ _ z=>z.1.elim
theorem zkX {fl:Value} {l:List Env} {Q:Unit->Shared->Prop} (ht:s.heap.TracedAtW base e cls a0 fl) (x:NoCtx s.heap e) (h:∀ h',NoCtx h' e->Q () { s with heap:=h' }):wpAny M A (setFlight (.ref e) none) Q E s:=by
 obtain ⟨oe,vs,T,oT,ts,he,_,hd,h1,_,_,hT,hdT,h3⟩:=ht
 exact zga x he hd h1 hT hdT (Array.getElem?_eq_some_iff.mp h3).1 h
theorem landsX {l:List Env} {Q:Unit->Shared->Prop} (hh:Heap.HeldW base l e cls a0 L s.heap) (x:NoCtx s.heap e) (hQ:∀ h',Heap.FlyingW base l e cls a0 h'->NoCtx h' e->s.heap.UpToSlots h'->Q () { s with heap:=h' }):wpAny M A (setFlight (.ref e) none) Q E s:=
 wpAny_mono (zbN (wpAny_landsW (E:=fun _ _=>False) (Q:=fun _ s2=>∃ h2,s2={ s with heap:=h2 } /\ Heap.FlyingW base l e cls a0 h2 /\ s.heap.UpToSlots h2) hh fun h2 k1 k2=>⟨h2,rfl,k1,k2⟩)
  (zkX (E:=fun _ _=>False) (l:=l) (Q:=fun _ s2=>NoCtx s2.heap e) hh.2.2.2 x fun _ k=>k)) (fun _ s2 ⟨⟨h2,e2,k1,k2⟩,nc⟩=>by subst e2; exact hQ h2 k1 nc k2) fun _ _ z=>z.1.elim
theorem zfC {l:List Env} {Q:Unit->Shared->Prop} (hh:Heap.FlyingW base l e cls a0 s.heap) (x:NoCtx s.heap e) (hQ:∀ h',Heap.FlyingW base l e cls a0 h'->NoCtx h' e->s.heap.UpToSlots h'->Q () { s with heap:=h' }):wpAny M A (setFlight (.ref e) none) Q E s:=
 wpAny_mono (zbN (lands_againW (E:=fun _ _=>False) (Q:=fun _ s2=>∃ h2,s2={ s with heap:=h2 } /\ Heap.FlyingW base l e cls a0 h2 /\ s.heap.UpToSlots h2) hh fun h2 k1 k2=>⟨h2,rfl,k1,k2⟩)
  (zkX (E:=fun _ _=>False) (l:=l) (Q:=fun _ s2=>NoCtx s2.heap e) hh.2.2.2.at x fun _ k=>k)) (fun _ s2 ⟨⟨h2,e2,k1,k2⟩,nc⟩=>by subst e2; exact hQ h2 k1 nc k2) fun _ _ z=>z.1.elim
end
end L2
namespace L2
open PySem PySem.Spec PySem.W PyProof.Rows
theorem ObjOk.there {P:Program} {w:World} {H:Hp} {h:Heap} {a:Addr} {o:HO} (x:ObjOk P w H h a o):∃ ob,h.get? a=some ob:=by
 induction o with
 | lst xs=>obtain ⟨_,_,_,_,e⟩:=x; exact ⟨_,e⟩
 | tup xs=>obtain ⟨_,_,_,o,e,_⟩:=x; exact ⟨_,e⟩
 | dK kvs=>obtain ⟨_,_,_,_,o,es,ep,e,_⟩:=x; exact ⟨_,e⟩
 | dT kvs=>obtain ⟨_,_,_,_,o,es,ep,e,_⟩:=x; exact ⟨_,e⟩
 | set S n=>obtain ⟨_,_,_,_,e,_⟩:=x; exact ⟨_,e⟩
 | ins C dx fs=>obtain ⟨_,_,_,e,_⟩:=x; exact ⟨_,e⟩
 | own y=>exact x
 | xd fs=>obtain ⟨_,⟨o,es,ep,e,_⟩,_⟩:=x; exact ⟨_,e⟩
 | met f y=>exact ⟨_,x⟩
 | rng lo hi=>obtain ⟨_,_,_,e⟩:=x; exact ⟨_,e⟩
 | frz ob u ih=>exact ⟨_,x.1⟩
 | tbl ps=>exact ⟨_,x⟩
 | lam p q=>obtain ⟨_,e,_⟩:=x; exact ⟨_,e⟩
 | code q=>obtain ⟨_,_,_,_,z,e,_⟩:=x; cases z; exact ⟨_,e⟩
 | ext φ=>exact x.2.1
noncomputable def Cov (g:Heap) (l:List Env) (H:Hp) (B:Heap):Prop:=∀ b,b∉frs l->(H b≠none \/ ∃ o0,g.get? b=some o0)->∃ o,B.get? b=some o
theorem Cov.at {g h B:Heap} {l:List Env} {H:Hp} (c:Cov g l H B) (st:B.StaysIn h) {b:Addr} {o:Obj} (q:h.get? b=some o) (n:b∉frs l) (i:H b≠none \/ ∃ o0,g.get? b=some o0):B.get? b=some o:=by
 obtain ⟨o',e⟩:=c b n i
 have:=st b o' e
 rw [q] at this
 cases this
 exact e
theorem zjn {l:List Env} {H H1:Hp} {g h h' B base:Heap} (u:Un (frs l) [] H H1 g h) (c:Cov g l H1 B) (st:B.StaysIn h) (st':B.StaysIn h') (up:h.UpToSlots h') (fr:h.FunFrames base l):Un (frs l) [] H H1 g h' where
 keep:=fun b o q n hb hx=>st' b o (c.at st (u.keep b o q n hb hx) hb (.inr ⟨_,q⟩))
 slot:=fun b o q n hb hx=>by
  obtain ⟨sl,e⟩:=u.slot b o q n hb hx
  obtain ⟨_,o1,ho1,hnf⟩:=fr.mem hb
  rw [e] at ho1
  cases ho1
  obtain ⟨sl',e'⟩:=up b _ e hnf
  exact ⟨sl',e'⟩
 free:=u.free
 there:=fun b o q hx=>by
  by_cases hb:b∈frs l
  ·obtain ⟨_,o1,ho1,hnf⟩:=fr.mem hb
   obtain ⟨sl',e'⟩:=up b _ ho1 hnf
   exact ⟨_,e'⟩
  ·obtain ⟨o',e⟩:=u.there b o q hx
   exact ⟨o',st' b o' (c.at st e hb (.inr ⟨_,q⟩))⟩
 tups:=u.tups
 frzs:=u.frzs
 tbls:=u.tbls
theorem zgi {P:Program} {w:World} {l:List Env} {H:Hp} {g h h' B:Heap} (x:HOk P w H h) (c:Cov g l H B) (st:B.StaysIn h) (st':B.StaysIn h') (nf:∀ b∈frs l,H b=none):HOk P w H h':=fun a o e=>by
 refine (x a o e).stay (fun b u hb q=>?_) (fun _ q=>q) fun _ _ q=>q
 have ht:H b≠none:=by
  rcases hb with rfl | hb
  ·rw [e]; exact fun z=>nomatch z
  ·rw [hb]; exact fun z=>nomatch z
 exact st' b u (c.at st q (fun z=>ht (nf b z)) (.inl ht))
noncomputable def CXr (P:Program) (w:World):CXT:=fun outer H s E e s'=>∃ (a t C:Addr) (B:Heap) (H1:Hp),e=.ref a /\ s'.os=s.os /\ AllBare s'.gens /\ Un (frs outer) [] H H1 s.heap s'.heap /\ HOk P w H1 s'.heap /\
 s.heap.get? a=none /\ H1 a=none /\ Cov s.heap outer H1 B /\ Heap.FlyingW B outer a (.ref C) (.ref t) s'.heap /\ NoCtx s'.heap a /\ E (.ref C) none H1
section
variable {P:Program} {w:World} {K:PySem.W.Frag} {mg:Str->Option Value} {base:Heap} {N:List Str} {qual:Str} {scope:Scope} {f:Addr} {cd:Value} {A:Around} {outer:List Env} {s:Shared} {H:Hp} {E:XK}
theorem Inv.tracked {X:Cx} {pins:List (Addr×Obj)} {σ:St} {H1:Hp} {s1:Shared} (I:Inv X pins σ H1 s1) {b:Addr} (n:H1 b≠none):∃ o,s1.heap.get? b=some o:=by
 cases q:H1 b with
 | none=>exact absurd q n
 | some o=>exact (I.hok b o q).there
theorem zlQ {pins:List (Addr×Obj)} {σ:St} {H1:Hp} {s1:Shared} {h':Heap} {a C:Addr} {vs:List Value} (I:Inv (cxOf (CXr P w) P w K mg base N qual scope f cd A outer s H E) pins σ H1 s1)
  (hx:Heap.MadeExcOf s1.heap h' a (.ref C) vs) (hE:E (.ref C) none H1):(cxOf (CXr P w) P w K mg base N qual scope f cd A outer s H E).xe (.ref a) { s1 with heap:=h' }:=by
 have st:(hideAll s1.heap (frs (envOfC qual scope s.heap.objs.size f cd :: outer))).StaysIn s1.heap:=fun b o q=>of_hideAll _ q
 have cov0:∀ b,b∉frs outer->(H1 b≠none \/ ∃ o0,s.heap.get? b=some o0)->∃ o,(hideAll s1.heap (frs (envOfC qual scope s.heap.objs.size f cd :: outer))).get? b=some o:=fun b nb i=>by
  have hb:b∉frs (envOfC qual scope s.heap.objs.size f cd :: outer):=fun z=>by
   rcases List.mem_cons.mp (I.stkSub b z) with e | z
   ·rcases i with i | ⟨o0,i⟩
    ·exact i (by rw [e]; exact I.free)
    ·exact absurd (Nat.lt_of_lt_of_le (Heap.lt_size i) (by rw [e]; exact I.ok.above)) (Nat.lt_irrefl _)
   ·exact nb z
  have ex:∃ o,s1.heap.get? b=some o:=by
   rcases i with i | ⟨o0,i⟩
   ·exact I.tracked i
   ·exact I.base.there b o0 i (fun z=>nomatch z)
  obtain ⟨o,e⟩:=ex
  exact ⟨o,hideAll_get _ e hb⟩
 have fh:=funFrames_hide I.stack fun env he b hb=>List.mem_filterMap.mpr ⟨env,he,hb⟩
 refine wpAny_mono (zbN (wpAny_leaves_madeW (E:=fun _ _=>False) (Q:=fun _ s2=>∃ h2 t,s2={ s1 with heap:=h2 } /\ Heap.FlyingW (hideAll s1.heap (frs (envOfC qual scope s.heap.objs.size f cd :: outer))) outer a (.ref C) (.ref t) h2 /\ Heap.UpToSlots h' h2)
  (h:=s1.heap) I.ok.frames rfl st fh hx fun h2 t fly _ _ up=>⟨h2,t,rfl,fly,up⟩) (zjN (E:=fun _ _=>False) (Q:=fun _ s2=>NoCtx s2.heap a) I.ok.frames rfl fh hx fun _ x=>x)) (fun _ s2 ⟨⟨h2,t,e2,fly,up⟩,nc⟩=>?_) fun _ _ z=>z.1.elim
 subst e2
 have up2:s1.heap.UpToSlots h2:=(Heap.UpToSlots.of_keeps hx.keeps).trans up
 refine ⟨a,t,C,_,H1,rfl,I.os,I.bare,zjn I.base cov0 st fly.1 up2 I.funs,zgi I.hok cov0 st fly.1 (fun b hb=>?_),?_,?_,cov0,fly,nc,hE⟩
 ·obtain ⟨_,o,ho,_⟩:=I.ok.funs.mem hb
  exact I.base.free b o ho (I.ok.frf b hb) fun z=>nomatch z
 ·cases q:s.heap.get? a with
  | none=>rfl
  | some o=>
    obtain ⟨o',e⟩:=I.base.there a o q (fun z=>nomatch z)
    rw [hx.new] at e; cases e
 ·cases q:H1 a with
  | none=>rfl
  | some o=>
    obtain ⟨o',e⟩:=I.tracked (b:=a) (by rw [q]; exact fun z=>nomatch z)
    rw [hx.new] at e; cases e
theorem zi1:Passes (CXr P w) (cxOf (CXr P w) P w K mg base N qual scope f cd A outer s H E) E:=by
 rintro pins σ H0 s0 e s' I ⟨a,t,C,B,H1,rfl,os,bare,un,hok,na,ta,cov,fly,nc0,hE⟩
 have I':=I.call' (ch:=[]) os un hok bare (fun b z=>nomatch z)
 have cov0:Cov s.heap outer H1 B:=fun b nb i=>by
  refine cov b (fun z=>?_) ?_
  ·rcases List.mem_cons.mp (I.stkSub b z) with e | z
   ·rcases i with i | ⟨o0,i⟩
    ·exact i (by rw [e]; exact I'.free)
    ·exact absurd (Nat.lt_of_lt_of_le (Heap.lt_size i) (by rw [e]; exact I.ok.above)) (Nat.lt_irrefl _)
   ·exact nb z
  ·rcases i with i | ⟨o0,i⟩
   ·exact .inl i
   ·exact .inr (I.base.there b o0 i fun z=>nomatch z)
 refine wpAny_mono (zbN (wpAny_leaves_onW (E:=fun _ _=>False) (Q:=fun _ s2=>∃ h2,s2={ s' with heap:=h2 } /\ Heap.FlyingW B outer a (.ref C) (.ref t) h2 /\ s'.heap.UpToSlots h2) I.ok.frames rfl fly fun h2 fly2 up=>⟨h2,rfl,fly2,up⟩)
  (zhF (E:=fun _ _=>False) (Q:=fun _ s2=>NoCtx s2.heap a) I.ok.frames rfl fly nc0 fun _ x=>x)) (fun _ s2 ⟨⟨h2,e2,fly2,up⟩,nc⟩=>?_) fun _ _ z=>z.1.elim
 subst e2
 refine ⟨a,t,C,B,H1,rfl,I'.os,I'.bare,zjn I'.base cov0 fly.1 fly2.1 up I'.funs,zgi I'.hok cov0 fly.1 fly2.1 (fun b hb=>?_),?_,ta,cov0,fly2,nc,hE⟩
 ·obtain ⟨_,o,ho,_⟩:=I'.ok.funs.mem hb
  exact I'.base.free b o ho (I'.ok.frf b hb) fun z=>nomatch z
 ·cases q:s.heap.get? a with
  | none=>rfl
  | some o=>
    obtain ⟨o',e⟩:=I.base.there a o q (fun z=>nomatch z)
    rw [na] at e; cases e
structure ExC (K:PySem.W.Frag) (mg:Str->Option Value) (x:Str) (C:Addr) (bm tl:List Value) (newId:String):Prop where
 bound:mg x=some (.ref C)
 obj:∃ (n:Addr) (nm q:Str) (bs:List Value) (hdct:Bool) (sn:List Str) (sub:List Value) (ab:Bool) (col:Option Bool) (dd:Option Addr) (k0 k1 k2 k3 k5:Option Value) (mN:Str->Option Value),
  mN "__init__"=none /\ ∀ h:Heap,K.In h->h.get? C=some (excClassObj nm q C n bs tl hdct sn sub ab col dd k0 k1 k2 k3 k5 newId) /\ h.Ns n mN /\ OwnTail h bm tl
theorem zjI {x:Str} {C:Addr} {bm tl bmN:List Value} {newId nid initId inN B Bn:String} {e₀:Expr} {rest:List Expr} {np cpos pos:Pos} {t:TA} (hC:ExC K mg x C bm tl newId) (Fn:ExcBaseFacts Bn newId inN bmN) (hBn:bm.contains (.type Bn)=true)
  (FB:ExcBaseFacts B nid initId bm) (ha:PA (cxOf (CXr P w) P w K mg base N qual scope f cd A outer s H E) (e₀ :: rest) t) (hg:Gl (cxOf (CXr P w) P w K mg base N qual scope f cd A outer s H E) x:=by rfl)
  (he:starEach (e₀ :: rest) (envOfC qual scope s.heap.objs.size f cd)=(false,eval e₀ (envOfC qual scope s.heap.objs.size f cd)) :: starEach rest (envOfC qual scope s.heap.objs.size f cd):=by rfl)
  (hplain:(backTo cpos (starEach rest (envOfC qual scope s.heap.objs.size f cd))).any (·.1)=false:=by rfl) (hd:(x == ("__debug__":Str))=false:=by decide):
  PS (cxOf (CXr P w) P w K mg base N qual scope f cd A outer s H E) (.Raise (some (.Call (.Name x np) (e₀ :: rest) [] cpos)) none pos) (fun _ σ H0=>t σ H0 fun vs H1=>vs.length<=sizeLine /\ E (.ref C) none H1):=by
 intro pins s1 σ H1 D I h
 obtain ⟨n,nm,q,bs,hdct,sn,sub,ab,col,dd,k0,k1,k2,k3,k5,mN,hni,all⟩:=hC.obj
 obtain ⟨_,_,T⟩:=all _ I.kIn
 refine wpAny_Raise_call_subU (C:=C) (nm:=nm) (q:=q) (N:=n) (bs:=bs) (bm:=tl) (hdct:=hdct) (sn:=sn) (sub:=sub) (ab:=ab) (col:=col) (dd:=dd) (k0:=k0) (k1:=k1) (k2:=k2) (k3:=k3) (k5:=k5)
  Fn hBn FB (mN:=mN) (T.hasType FB.hasBase) (I.ok.hd rfl) ?_ hni (zcA I hg hC.bound ⟨rfl,?_⟩ hd)
 ·show (backTo cpos (starEach (e₀ :: rest) (envOfC qual scope s.heap.objs.size f cd))).any (·.1)=false
  rw [he]; show (false || (backTo cpos (starEach rest (envOfC qual scope s.heap.objs.size f cd))).any (·.1))=false; rw [hplain]; rfl
 ·show wpAny _ _ (evalArgs (.ref C) true (backTo cpos (starEach (e₀ :: rest) (envOfC qual scope s.heap.objs.size f cd))) []) _ _ s1
  have hp:=ha cpos pins s1 σ H1 _ I h
  have hp':wpAny (model P w) (A.deeper (envOfC qual scope s.heap.objs.size f cd)) (spliced (backTo cpos (starEach (e₀ :: rest) (envOfC qual scope s.heap.objs.size f cd)))) _ _ s1:=hp
  rw [he] at hp' ⊢
  refine Calls.evalArgs_plain (wpAny_mono hp' (fun us s2 ⟨vs,H2,I2,r2,hz,hE⟩=>⟨rfl,by show us.length<=_; rw [<- r2.length]; exact hz,(all _ I2.kIn).1,(all _ I2.kIn).2.1,(all _ I2.kIn).2.2,fun h' e hm=>zlQ I2 hm hE⟩) fun _ _ y=>y)
end
noncomputable abbrev Cx.inX (X:Cx) (a:Addr):Cx:={ X with A:=X.A.mark (some (.ref a)),calm:=false,xe:=fun _ _=>False }
theorem Cx.Ok.inX {X:Cx} (ok:X.Ok) (a:Addr):(X.inX a).Ok:=
 ⟨ok.mod,ok.kind,ok.glob,ok.blt,ok.above,ok.inj,ok.has,ok.cab,(fun z=>nomatch z),ok.frames,ok.stk,ok.exf,ok.bs,ok.bsz,ok.noex,ok.exfs,ok.funs,ok.frf⟩
theorem Inv.inX {X:Cx} {pins:List (Addr×Obj)} {σ:St} {H:Hp} {s:Shared} (I:Inv X pins σ H s) (a:Addr):Inv (X.inX a) pins σ H s:=⟨I.ok.inX a,I.os,I.bare,I.base,I.loc,I.cell,I.free,I.freeC,I.pin,I.hok,I.len⟩
theorem Inv.outX {X:Cx} {pins:List (Addr×Obj)} {σ:St} {H:Hp} {s:Shared} {a:Addr} (I:Inv (X.inX a) pins σ H s) (ok:X.Ok):Inv X pins σ H s:=⟨ok,I.os,I.bare,I.base,I.loc,I.cell,I.free,I.freeC,I.pin,I.hok,I.len⟩
theorem Inv.trackX {X:Cx} {pins:List (Addr×Obj)} {σ σ':St} {H0 H1:Hp} {s0 s1:Shared} {a:Addr} {o:HO} (I:Inv X pins σ H1 s1) (I0:Inv X pins σ' H0 s0) (na:s0.heap.get? a=none) (ta:H1 a=none) (new:ObjOk X.prog X.w (upd H1 a o) s1.heap a o):
  Inv X pins σ (upd H1 a o) s1:=by
 have ne:∀ b ob,s0.heap.get? b=some ob->b≠a:=fun b ob q e=>by rw [e,na] at q; cases q
 have nt:∀ b u,H1 b=some u->b≠a:=fun b u q e=>by rw [e,ta] at q; cases q
 have nL:X.env.locals≠a:=by
  obtain ⟨m,⟨ol,_,_,e,_⟩,_⟩:=I0.loc
  exact ne _ _ e
 refine ⟨I.ok,I.os,I.bare,⟨I.base.keep,I.base.slot,fun b ob q n hx=>?_,I.base.there,fun b xs q=>?_,fun b ob u q=>?_,fun b ps q=>?_⟩,I.loc,I.cell,?_,fun x c e=>?_,fun p hp=>?_,fun b u q=>?_,I.len⟩
 ·obtain ⟨o',e⟩:=I0.base.there b ob q hx
  rw [zt (ne b o' e)]; exact I.base.free b ob q n hx
 ·have:=I.base.tups b xs q
  rw [zt (nt _ _ this)]; exact this
 ·have:=I.base.frzs b ob u q
  rw [zt (nt _ _ this)]; exact this
 ·obtain ⟨more,this⟩:=I.base.tbls b ps q
  exact ⟨more,by rw [zt (nt _ _ this)]; exact this⟩
 ·rw [zt nL]; exact I.free
 ·obtain ⟨v,oc,e1,_⟩:=I0.cell x c e
  rw [zt (ne _ _ e1)]; exact I.freeC x c e
 ·obtain ⟨e,n,r1,r2,r3⟩:=I.pin p hp
  exact ⟨e,by rw [zt (ne _ _ (I0.pin p hp).1)]; exact n,r1,r2,r3⟩
 ·by_cases hb:b=a
  ·subst hb; rw [zH] at q; cases q; exact new
  ·rw [zt hb] at q
   refine (I.hok b u q).stay (fun _ _ _ z=>z) (fun c z=>by rw [zt (nt _ _ z)]; exact z) fun c xs z=>z.ne (by rcases z with z | ⟨_,z⟩ <;> exact nt _ _ z)
theorem Inv.forget {X:Cx} {pins:List (Addr×Obj)} {σ:St} {H:Hp} {s:Shared} {h':Heap} {tk:Nat} {m:Str->Option Value} (I:Inv X pins σ H s) (hn:h'.Ns X.env.locals m) (hs:Heap.SameBut X.env.locals s.heap h'):
  Inv X pins (List.replicate X.N.length none) H { s with heap:=h',toks:=tk }:=by
 have cne:=I.cne
 have lt:∀ b o,X.s₀.heap.get? b=some o->b≠X.env.locals:=fun b o e=>Nat.ne_of_lt (Nat.lt_of_lt_of_le (Heap.lt_size e) I.ok.above)
 refine ⟨I.ok,I.os,I.bare,⟨fun b o e n hb hx=>(hs.2 b (lt b o e)).trans (I.base.keep b o e n hb hx),fun b o e n hb hx=>?_,I.base.free,fun b o e hx=>?_,I.base.tups,I.base.frzs,I.base.tbls⟩,⟨m,hn,fun j y v e1 e2 _=>?_⟩,fun y c e=>?_,I.free,I.freeC,fun p hp=>?_,fun b u q=>?_,by simp⟩
 ·obtain ⟨sl,e1⟩:=I.base.slot b o e n hb hx
  exact ⟨sl,(hs.2 b (lt b o e)).trans e1⟩
 ·obtain ⟨o',e1⟩:=I.base.there b o e hx
  exact ⟨o',(hs.2 b (lt b o e)).trans e1⟩
 ·rw [List.getElem?_replicate] at e2
  split at e2 <;> cases e2
 ·obtain ⟨w',z⟩:=I.cell y c e
  exact ⟨w',z.sameBut hs (cne y c e)⟩
 ·obtain ⟨e,n,ne,nf,d⟩:=I.pin p hp
  exact ⟨(hs.2 p.1 ne).trans e,n,ne,nf,d⟩
 ·refine (I.hok b u q).stay (fun c w' hc z=>(hs.2 c ?_).trans z) (fun _ z=>z) fun _ _ z=>z
  rintro rfl
  rcases hc with e | hc
  ·rw [<- e,I.free] at q; cases q
  ·rw [I.free] at hc; cases hc
section
variable {X:Cx} {k:Nat} {f:Addr} {fd:FuncData} {ps:List Str} {sp:Sp} {g T n:Str} {gp cpos epos tp hpos pos:Pos} {e:Expr} {es:List Expr} {ta:TA} {b₀:Stmt} {suite:List Stmt} {i:Nat} {Tv:Value} {ts:Addr->TS}
end
end L2
namespace L2
open PySem PySem.Spec PySem.W PyProof.Rows PySem.Builtin PySem.Builtin.ObjectAttr PySem.Builtin.Getset_descriptor
section
variable {prog:Program} {w:World} {A:Around} {E:Value->Shared->Prop} {h:Heap} {g:Array GenState} {d:Drawn} {t:Nat} {os:OsState} {a C:Addr} {o:Obj} {K:Frag}
theorem zl7 {R:Result->Shared->Prop} (X:K.In h) (hx:h.get? a=some o) (hc:o.cls=.ref C) (hs:subIn K (.ref C) (.type "object")=some true) (hq:R (.ok (.ret (.ref C))) ⟨h,g,d,t,os⟩):
  codeAny (model prog w) A (.call (.builtin "getset_descriptor.__get__") ⟨[.builtin "object.__class__",.ref a,.ref C],[]⟩) R ⟨h,g,d,t,os⟩:=by
 have hT5:(⟨h,g,d,t,os⟩:Shared).TypeIs (.builtin "object.__class__") "getset_descriptor":=F.typeOf_object_class
 have L1:Looks (model prog w) h (isSubtype (.ref C) (.type "object")) true:=looks_subIn X hs
 refine codeAny_call_builtin KF.slot_gs.plain KF.entry_gs (KF.slot_gs.check _ _ _ _ _ _ _ _ KF.type_class (KF.args_gs _ _ _) ?_)
 have L0:Looks (model prog w) h (typeOf (.ref a)) (.ref C):=by rw [<- hc]; exact (Looks.ld hx).andThen Looks.now
 unfold Builtin.«getset_descriptor.__get__» descrGet
 rw [dga_obj]
 refine wpAny_bind (wpAny_pure ?_)
 unfold descrGetter descrCheckInstance descrNameAndClass isInstance
 simp only [KF.owner_class]
 repeat lk
 refine ⟨Code.quiet_builtin _ (by decide +kernel),codeAny_builtin KF.entry_class ?_⟩
 unfold Builtin.«object.__class__» shownTypeOf
 repeat lk
 exact hq
theorem ziv {tk:Tok} {Q:Fin->Shared->Prop} (X:K.In h) (hx:h.get? a=some o) (hc:o.cls=.ref C) (hs:subIn K (.ref C) (.type "object")=some true) (hf:findIn K (.ref C) "__class__"=some (some (.builtin "object.__class__"))) (hq:Q (.done (.ret (.ref C))) ⟨h,g,d,t,os⟩):
  wpAny (model prog w) A (Builtin.«object.__getattribute__» ⟨[.ref a,.str "__class__" tk],[]⟩) Q E ⟨h,g,d,t,os⟩:=by
 have hT5:(⟨h,g,d,t,os⟩:Shared).TypeIs (.builtin "object.__class__") "getset_descriptor":=F.typeOf_object_class
 have f5:=F.typeOf_object_class
 have f6:=F.slot_gs_get.lookup
 have f7:=F.slot_gs_set.lookup
 have L1:Looks (model prog w) h (typeLookup (.ref C) "__class__") (some (.builtin "object.__class__")):=looks_findIn X hf
 repeat (any_goals (first | assumption | (with_reducible refine wpAny_loadPart_at hx ?_; rw [hc]) | with_reducible refine L1.at ?_ | wp_step))
 refine zl7 X hx hc hs ?_
 repeat (any_goals (first | assumption | wp_step))
theorem ziX {M:Model} {nameV:Value} {Q:Unit->Shared->Prop} (X:K.In h) (hx:h.get? a=some o) (hc:o.cls=.ref C) (hs:subIn K (.ref C) (.type "BaseException")=some true) (hq:Q () ⟨h,g,d,t,os⟩):
  wpAny M A (checkBuiltinCall "BaseException.__getattribute__" ⟨[.ref a,nameV],[]⟩) Q E ⟨h,g,d,t,os⟩:=by
 have hk:builtinKind "BaseException.__getattribute__"=some .slot:=by decide +kernel
 have hsplit:splitId "BaseException.__getattribute__"=some ("BaseException","__getattribute__"):=by decide +kernel
 have L1:Looks M h (isSubtype (.ref C) (.type "BaseException")) true:=looks_subIn X hs
 have ha:=F.args_bexc_ga (.ref a) nameV
 simp only [checkBuiltinCall,hk,hsplit]
 refine wpAny_bind ?_
 unfold isInstance
 repeat (first | (with_reducible refine wpAny_loadPart_at hx ?_; rw [hc]) | with_reducible refine L1.at ?_ | wp_step)
 exact hq
theorem znA {tk:Tok} {Q:Value->Shared->Prop} (X:K.In h) (hx:h.get? a=some o) (hc:o.cls=.ref C) (hs:subIn K (.ref C) (.type "object")=some true) (hs2:subIn K (.ref C) (.type "BaseException")=some true)
  (hf:findIn K (.ref C) "__class__"=some (some (.builtin "object.__class__"))) (hga:findIn K (.ref C) "__getattribute__"=some (some (.builtin "BaseException.__getattribute__"))) (hna:findIn K (.ref C) "__getattr__"=some none) (hq:Q (.ref C) ⟨h,g,d,t,os⟩):
  wpAny (model prog w) A (getAttrBy (.ref a) (.str "__class__" tk) false) Q E ⟨h,g,d,t,os⟩:=by
 have f3:=PySem.F.attrBase_ValueError.ga.bind (.ref a)
 have hx2:(Value.builtin "BaseException.__getattribute__" == Value.builtin "object.__getattribute__")=false:=by decide +kernel
 have hx1:(onTheHeap (Value.ref C) && Value.builtin "BaseException.__getattribute__" == Value.builtin "object.__getattribute__")=false:=by rw [hx2]; rfl
 have L1:Looks (model prog w) h (typeLookup (.ref C) "__getattribute__") (some (.builtin "BaseException.__getattribute__")):=looks_findIn X hga
 have L2:Looks (model prog w) h (typeLookup (.ref C) "__getattr__") none:=looks_findIn X hna
 repeat (any_goals (first | assumption | (with_reducible refine wpAny_loadPart_at hx ?_; rw [hc]) | with_reducible refine L1.at ?_ | with_reducible refine L2.at ?_ | wp_step))
 refine codeAny_call_builtin PySem.F.attrBase_ValueError.ga.plain F.entry_bexc_ga (ziX X hx hc hs2 (ziv X hx hc hs hf ?_))
 repeat (any_goals (first | assumption | wp_step))
theorem zkl {Q:Option Value->Shared->Prop} (X:K.In h) (hx:h.get? a=some o) (hc:o.cls=.ref C) (hs:subIn K (.ref C) (.type "object")=some true) (hs2:subIn K (.ref C) (.type "BaseException")=some true)
  (hf:findIn K (.ref C) "__class__"=some (some (.builtin "object.__class__"))) (hga:findIn K (.ref C) "__getattribute__"=some (some (.builtin "BaseException.__getattribute__"))) (hna:findIn K (.ref C) "__getattr__"=some none) (hq:Q (some (.ref C)) ⟨h,g,d,t + 1,os⟩):
  wpAny (model prog w) A (getAttr? (.ref a) "__class__") Q E ⟨h,g,d,t,os⟩:=by
 unfold getAttr? getAttrBy?
 repeat (any_goals (first | assumption | with_reducible apply znA X hx hc hs hs2 hf hga hna | wp_step))
end
end L2
namespace L2
open PySem PySem.Spec PySem.W PyProof.Rows
structure XCls (K:Frag) (C:Addr):Prop where
 obj:∃ c d cd sl,K.lookup C=some ⟨c,d,.cls cd,sl⟩
 sO:subIn K (.ref C) (.type "object")=some true
 sB:subIn K (.ref C) (.type "BaseException")=some true
 fc:findIn K (.ref C) "__class__"=some (some (.builtin "object.__class__"))
 fg:findIn K (.ref C) "__getattribute__"=some (some (.builtin "BaseException.__getattribute__"))
 fn:findIn K (.ref C) "__getattr__"=some none
theorem zgJ {K:Frag} {a C:Addr} (c:XCls K C):KitX K (.ref a) (.ref C) (fun h=>∃ o,h.get? a=some o /\ o.cls=.ref C) where
 ty:=fun _ _ _ ⟨o,hx,hc⟩=>by rw [<- hc]; exact (Looks.ld hx).andThen Looks.now
 it:=fun _ _ X _=>by
  obtain ⟨c',d',cd',sl',ho⟩:=c.obj
  intro A' Q' E' s' k q
  unfold isType loadHead
  exact wpAny_bind (wpAny_loadPart (k _ _ (X _ _ ho)) (wpAny_pure q))
 ne:=fun h tp dd its n sl X htp=>by
  obtain ⟨c',d',cd',sl',ho⟩:=c.obj
  refine Bool.eq_false_iff.mpr fun q=>?_
  have e:C=tp:=Value.ref.inj (beq_iff_eq.mp q)
  subst e
  have z:=(X _ _ ho).symm.trans htp
  cases z
 ca:=fun {_ _ _ _ _ s} X ⟨o,hx,hc⟩ k=>by
  obtain ⟨h,g,d,t,os⟩:=s
  exact zkl X hx hc c.sO c.sB c.fc c.fg c.fn k
noncomputable def isiX (K:Frag):List V->Hp->VK->Prop:=fun vs H Q=>∃ a C cv b,vs=[.ref a,cv] /\ H a=some (ExO a C) /\ XCls K C /\ Q (.bl b) H /\
 ((∃ c,(∀ u,RelV cv u->u=c) /\ kitOne K (.ref C) c=some b) \/ ∃ tp cvs,cv=.ref tp /\ H tp=some (.tup cvs) /\ ∀ its,Vals cvs its->kitAny K (.ref C) its=some b)
theorem zhU {X:Cx}:CallR X (.builtin "isinstance") (isiX X.K):=by
 rintro pins s σ H vs us Q I r ⟨a,C,cv,b,rfl,ha,hc,q,h⟩
 have ⟨u1,u2,e,r1,r2⟩:∃ u1 u2,us=[u1,u2] /\ RelV (.ref a) u1 /\ RelV cv u2:=by
  cases r with
  | cons r1 r'=>cases r' with
    | cons r2 r''=>cases r'' with
      | nil=>exact ⟨_,_,rfl,r1,r2⟩
 subst e
 cases (show u1=Value.ref a from r1)
 have hx:∃ o,s.heap.get? a=some o /\ o.cls=.ref C:=(I.hok a _ ha).1.1
 rcases h with ⟨c,hcv,e⟩ | ⟨tp,cvs,rfl,ht,e⟩
 ·cases hcv u2 r2
  exact kia_one (zgJ hc) I.kIn hx e (fun z=>nomatch z) fun tk=>⟨.bl b,H,I.tok tk,rfl,q⟩
 ·cases (show u2=Value.ref tp from r2)
  obtain ⟨_,its,rv,o,ho,ho2,n,ho3⟩:=(show ObjOk X.prog X.w H s.heap tp (.tup cvs) from I.hok tp _ ht)
  obtain ⟨oc,od,odt,osl⟩:=o
  cases ho2
  cases ho3
  exact kia_tup (zgJ hc) I.kIn hx ho (e its rv) (fun z=>nomatch z) fun tk=>⟨.bl b,H,I.tok tk,rfl,q⟩
structure RoomX (k:Nat) (A:Around):Prop where
 dp:A.depth + 3 * k + 5 < recursionLimit
 un:A.units + 16 * k + 200 < cLine
theorem Room.markX {k:Nat} {A:Around} (r:Room k A) (v:Option Value):RoomX k (A.mark v):=⟨r.dp,r.un⟩
theorem RoomX.mono {j k:Nat} {A:Around} (r:RoomX k A) (h:j<=k):RoomX j A:=⟨by have:=r.dp; omega,by have:=r.un; omega⟩
theorem RoomX.deeper {k:Nat} {A:Around} (r:RoomX (k + 1) A) (env:Env):RoomX k (A.deeper env):=
 ⟨by have:=r.dp; show A.depth + 1 + 3 * k + 5 < _; omega,by have:=r.un; show A.units + 3 + 16 * k + 200 < _; omega⟩
noncomputable def cxX (P:Program) (w:World) (K:Frag) (mg:Str->Option Value) (base:Heap) (N:List Str) (qual:Str) (scope:Scope) (f:Addr) (cd:Value) (A:Around) (outer:List Env) (s:Shared) (H:Hp):Cx:=
 { cxOf CX0 P w K mg base N qual scope f cd A outer s H E0 with calm:=false,xe:=fun _ _=>False }
section
variable {P:Program} {w:World} {K:Frag} {mg:Str->Option Value} {base:Heap}
end
end L2
namespace L2
open PySem PySem.Spec PySem.W PyProof.Rows
noncomputable def DnR (P:Program) (w:World) (K:Frag) (mg:Str->Option Value) (base:Heap) (k:Nat) (x:Str) (ps:List Str) (sp:Sp):Prop:=
 ∃ f fd,FnOk P w K mg base (CXr P w) k f fd ps sp /\ mg x=some (.ref f) /\ keepIn K (.ref f)=true /\ Binds K fd ps []
section
variable {P:Program} {w:World} {K:Frag} {mg:Str->Option Value} {base:Heap} {x:Str} {st:Stmt} {N ps:List Str} {k:Nat} {sp:Sp}
theorem Df.okR (F:Df K mg x st ps) (S:FnScope N ps (defScope st)) (len:∀ vs H Q E,sp vs H Q E->vs.length=ps.length)
  (hbody:∀ (f:Addr) (cdv:Value) (A:Around) (outer:List Env) (s:Shared) (H:Hp) (vs:List V) (Q:VK) (E:XK),Room k (A.deeper (envOfC x (defScope st) s.heap.objs.size f cdv))->sp vs H Q E->
   ∃ t,PSs (cxOf (CXr P w) P w K mg base N x (defScope st) f cdv A outer s H E) (defBody st) t /\ t { nx:=fun _ H'=>Q .non H',rt:=Q } (start N vs) H):DnR P w K mg base (k + 1) x ps sp:=by
 obtain ⟨f,fd,F,m,b⟩:=F
 have kp:=F.kp
 obtain ⟨oc,od,kV,doc,pm,an,cdv,ct,osl,rfl,lk,hcd⟩:=F.ex
 exact ⟨f,_,zmi lk hcd S len (hbody f cdv),m,kp,b⟩
end
set_option tactic.hygienic true in
theorem zk5 {K:Frag} {mg:Str->Option Value} {x:Str} {C:Addr} {bm:List Value} {newId:String} (hm:mg x=some (.ref C)) (q:excIn K C bm newId=true):∃ tl,ExC K mg x C bm tl newId:=by
 unfold excIn at q
 split at q
 ·rename_i dd cd sl ho
  split at q
  ·rename_i C' tl k0 k1 k2 k3 n k5 hr hs
   simp only [Bool.and_eq_true,beq_iff_eq,Bool.not_eq_true'] at q
   obtain ⟨⟨⟨⟨⟨e1,e2⟩,hdel⟩,ht⟩,hok⟩,hni⟩:=q
   subst e1 e2
   obtain ⟨nm,bs,mro,ns,qn,hd,sn,sub,ab,col,del⟩:=cd
   dsimp only at hr hdel hok hni
   subst hr hdel
   have hsl:sl=#[k0,k1,k2,k3,some (.builtin n),k5]:=by
    obtain ⟨l⟩:=sl
    simp only at hs
    rw [hs]
   subst hsl
   have hno:∃ c d es ep sl2,K.lookup ns=some ⟨c,d,.dict es ep,sl2⟩ /\ (es.all fun e=>match e.key with | .str _ _=>true | _=>false)=true:=by
    unfold nsOkIn at hok
    split at hok
    ·rename_i ho2
     exact ⟨_,_,_,_,_,ho2,hok⟩
    ·cases hok
   obtain ⟨c2,d2,es2,ep2,sl2,hl2,hall⟩:=hno
   refine ⟨tl,hm,ns,nm,qn,bs,hd,sn,sub,ab,col,dd,k0,k1,k2,k3,k5,nsFind es2,?_,fun h X=>⟨X _ _ ho,?_,tail_of_in X ht⟩⟩
   ·unfold nsIn at hni
    rw [hl2] at hni
    dsimp only at hni
    split at hni
    ·cases hni
    ·rename_i he
     unfold nsFind findBy
     rw [<- Array.find?_toList,he]
     rfl
   ·have hns:h.Ns ns (h.nsMap ns):=.of_isNs (isNs_of_in X hok)
    obtain ⟨o,es,ep,h1,h2,h3,h4⟩:=hns
    rw [X _ _ hl2] at h1
    cases h1
    cases h2
    exact ⟨_,_,_,X _ _ hl2,rfl,h3,fun _=>rfl⟩
  ·cases q
 ·cases q
end L2
namespace L2
open PySem PySem.Spec PySem.W PyProof.Rows
noncomputable def isRx:D->Option Str
 | .dict [(.none,.str c)]=>some c
 | _=>none
theorem zdv {d:D} {c:Str} (h:isRx d=some c):d=rxD c:=by
 unfold isRx at h
 split at h
 ·cases h; rfl
 ·cases h
theorem zf1 {d:D} {r:List (D×D)} {kvs:List (List Key×V)} {d':D} (k:((d,d') :: r).map (·.1)=kvs.map (fun p=>PyData.tuple (p.1.map keyD))) (h:∀ l,d≠.tuple l):False:=by
 cases kvs with
 | nil=>cases k
 | cons p q=>exact h _ (List.cons.inj k).1
theorem zmB {K:Frag} {H:Hp} {v:V} {c:Str} (h:HD K H v (rxD c)):False:=by
 unfold rxD at h
 cases h with
 | dct _ k _=>exact zf1 k fun _ z=>nomatch z
noncomputable def orRx (d:D) (r:Res):Res:=match isRx d with
 | some _=>.rt d
 | none=>r
theorem zdm {d:D} {r:Res} (h:isRx d=none):orRx d r=r:=by unfold orRx; rw [h]
theorem zh7 {c:Str} {r:Res}:orRx (rxD c) r=.rt (rxD c):=rfl
noncomputable def xkOf (mg:Str->Option Value) (E:XK):Str->Hp->Prop:=fun c H=>∀ C,mg c=some (.ref C)->E (.ref C) none H
noncomputable def gRaise (c:Str):DS->Option Res:=fun _=>some (.rt (rxD c))
noncomputable def spR (K:Frag) (mg:Str->Option Value) (n:Nat) (G:List D->Option D):Sp:=fun vs H Q E=>vs.length=n /\ ∃ A ds d,Ls A H /\ HDs K (wo H A) vs ds /\ G ds=some d /\
 (∀ v H',Same H H'->HD K (wo H' A) v d->Q v H') /\ ∀ c H',d=rxD c->Same H H'->xkOf mg E c H'
section
variable {P:Program} {w:World} {K:Frag} {mg:Str->Option Value} {base:Heap} {N ps:List Str} {x qual:Str} {st:Stmt} {scope:Scope} {f:Addr} {cd:Value} {A:Around} {outer:List Env} {s:Shared} {H:Hp} {E:XK} {O:List Nat} {k:Nat}
theorem zeI {c:Str} {C:Addr} {b:Bool} {bm tl bmN:List Value} {newId nid initId inN B Bn:String} {e₀:Expr} {v:V} {np cpos pos:Pos} (hC:ExC K mg c C bm tl newId) (Fn:ExcBaseFacts Bn newId inN bmN) (hBn:bm.contains (.type Bn)=true) (FB:ExcBaseFacts B nid initId bm)
  (ha:PE (cxOf (CXr P w) P w K mg base N qual scope f cd A outer s H E) e₀ (tC v)) (hg:Gl (cxOf (CXr P w) P w K mg base N qual scope f cd A outer s H E) c:=by rfl)
  (he:starEach [e₀] (envOfC qual scope s.heap.objs.size f cd)=[(false,eval e₀ (envOfC qual scope s.heap.objs.size f cd))]:=by rfl) (he0:starEach ([]:List Expr) (envOfC qual scope s.heap.objs.size f cd)=[]:=by rfl) (hd:(c == ("__debug__":Str))=false:=by decide):
  PS (cxOf (CXr P w) P w K mg base N qual scope f cd A outer s H E) (.Raise (some (.Call (.Name c np) [e₀] [] cpos)) none pos) (tS K O (b,xkOf mg E) (gRaise c)):=
 (zjI hC Fn hBn FB (zab ha za0 (by show starEach [e₀] (envOfC qual scope s.heap.objs.size f cd)=(false,eval e₀ (envOfC qual scope s.heap.objs.size f cd)) :: starEach [] (envOfC qual scope s.heap.objs.size f cd); rw [he,he0])) hg (by rw [he,he0]) (by rw [he0]; rfl) hd).mono fun D σ H1 hh=>hh.e fun H0 U A0 δ r R F ed Q=>by
  cases ed
  exact ⟨by show 1<=sizeLine; decide,Q.2 c H1 rfl F.same C hC.bound⟩
theorem zgx (O:List Nat) (g:DS->Option Res) (F:Df K mg x st ps) (S:FnScope N ps (defScope st))
  (body:∀ (f:Addr) (cdv:Value) (A:Around) (outer:List Env) (s:Shared) (H:Hp) (E:XK),Room k (A.deeper (envOfC x (defScope st) s.heap.objs.size f cdv))->PSs (cxOf (CXr P w) P w K mg base N x (defScope st) f cdv A outer s H E) (defBody st) (tS K O (false,xkOf mg E) g))
  (hO:∀ i∈O,ps.length<=i:=by decide) {n m:Nat} (hN:N.length=n:=by rfl) (hP:ps.length=m:=by rfl):DnR P w K mg base (k + 1) x ps (spR K mg m (gDef n g)):=by
 subst hN hP
 refine F.okR S (fun vs H Q E h=>h.1) (fun f cdv A outer s H vs Q E hr h=>⟨_,body f cdv A outer s H E hr,?_⟩)
 obtain ⟨hn,A',ds,d,al,hd,e,q,qx⟩:=h
 obtain ⟨r,e1,e2⟩:=bind1 e
 refine ⟨H,[],A',_,r,Rel.start al hd (fun i hi=>by have:=hO i hi; rw [<- hd.len,hn]; exact this),Fx.start al,e1,?_⟩
 cases r with
 | nx δ=>cases e2; exact fun U σ H' R F'=>q .non H' F'.same .non
 | rt d=>cases e2; exact ⟨fun v H' h=>by unfold RetR at h; rw [if_neg Bool.false_ne_true] at h; exact q v H' h.1 h.2,fun c H' e s=>qx c H' e s⟩
 | bk _=>cases e2
 | ct _=>cases e2
end
noncomputable def gSetR (i:Nat) (g:DS->Option D):DS->Option Res:=fun δ=>(g δ).bind fun d=>some (orRx d (.nx (δ.set i (some d))))
noncomputable def gDropR (g:DS->Option D):DS->Option Res:=fun δ=>(g δ).bind fun d=>some (orRx d (.nx δ))
section
variable {X:Cx} {O:List Nat} {E:XK} {k kk n i:Nat} {x:Str} {ps:List Str} {p pos:Pos} {e:Expr} {es:List Expr} {gr:DS->Option (List D)} {G:List D->Option D} {st:Stmt} {b:Bool}
theorem zc4 (F:DnR X.prog X.w X.K X.mg X.base k x ps (spR X.K X.mg n G)) (hr:Room kk X.A) (hk:k<=kk) (hx:Passes (CXr X.prog X.w) X E) (ha:PA X (e :: es) (tAs X.K O gr)) (hg:Gl X x:=by rfl)
  (hdb:(x == ("__debug__":Str))=false:=by decide) (he:starEach (e :: es) X.env=(false,eval e X.env) :: starEach es X.env:=by rfl) (hpl:(backTo pos (starEach es X.env)).any (·.1)=false:=by rfl):
  PE X (.Call (.Name x p) (e :: es) [] pos) (tCall (spR X.K X.mg n G) [] E (tAs X.K O gr)):=by
 obtain ⟨f,fd,F,m,kp,b⟩:=F
 exact zh3 F (hr.mono hk) hg m kp b .nil hx ha hdb he hpl
set_option tactic.hygienic true in
theorem tCallR {K:Frag} {mg:Str->Option Value} {σ:St} {δ:DS} {H:Hp} {Q:VK} {U A0:List Addr} {d:D} (R:Rel K O U A0 σ δ H) (e:gCall G n gr δ=some d) (qn:∀ v H',Same H H'->HD K (wo H' (U ++ A0)) v d->Q v H')
  (qx:∀ c H',d=rxD c->Same H H'->xkOf mg E c H'):tCall (spR K mg n G) [] E (tAs K O gr) σ H Q:=by
 obtain ⟨ds,e1,e2⟩:=bind1 e
 split at e2
 ·rename_i hn
  refine ⟨U,A0,δ,ds,R,e1,fun vs H' s h=>?_⟩
  show spR K mg n G (vs ++ []) H' Q E
  rw [List.append_nil]
  exact ⟨by rw [h.len]; exact hn,U ++ A0,ds,d,(R.same s).al,h,e2,fun v H2 s2 h2=>qn v H2 (s.trans s2) h2,fun c H2 ed s2=>qx c H2 ed (s.trans s2)⟩
 ·cases e2
theorem zlz (h:PS X st (tAsg (tCall (spR X.K X.mg n G) [] E (tAs X.K O gr)) (gName i))) (hi:i∉O:=by decide):PS X st (tS X.K O (b,xkOf X.mg E) (gSetR i (gCall G n gr))):=h.mono fun D σ H hh=>hh.e fun H0 U A0 δ r R F ed P=>by
 obtain ⟨d,e1,e2⟩:=bind1 ed
 have e3:=Option.some.inj e2
 refine tCallR R e1 (fun v H' s hv=>?_) (fun c H' hd s=>?_)
 ·cases hx:isRx d with
  | some c=>rw [zdv hx] at hv; exact (zmB hv).elim
  | none=>
    rw [zdm hx] at e3
    subst e3
    exact P U _ H' ((R.same s).set hi hv) (F.grow s)
 ·subst hd
  rw [zh7] at e3
  subst e3
  exact P.2 c H' rfl (F.same.trans s)
theorem zex (h:PS X st (tDrop (tCall (spR X.K X.mg n G) [] E (tAs X.K O gr)))):PS X st (tS X.K O (b,xkOf X.mg E) (gDropR (gCall G n gr))):=h.mono fun D σ H hh=>hh.e fun H0 U A0 δ r R F ed P=>by
 obtain ⟨d,e1,e2⟩:=bind1 ed
 have e3:=Option.some.inj e2
 refine tCallR R e1 (fun v H' s hv=>?_) (fun c H' hd s=>?_)
 ·cases hx:isRx d with
  | some c=>rw [zdv hx] at hv; exact (zmB hv).elim
  | none=>
    rw [zdm hx] at e3
    subst e3
    exact P U _ H' (R.same s) (F.grow s)
 ·subst hd
  rw [zh7] at e3
  subst e3
  exact P.2 c H' rfl (F.same.trans s)
end
theorem zkC {K:Frag} {b:Bool} {H0 H':Hp} {A0:List Addr} {v:V} {c:Str} (h:RetR K b H0 A0 v (rxD c) H'):False:=by
 unfold RetR at h
 split at h
 ·obtain ⟨r,o,_,_,_,_,q⟩:=h
  cases q with
  | dct k _=>exact zf1 k fun _ z=>nomatch z
 ·exact zmB h.2
noncomputable abbrev Cx.tr (X:Cx) (pins0:List (Addr×Obj)) (E:XK):Cx:={ X with pn:=X.pn ++ pins0,xe:=fun v s1=>∃ σ H0 s0,Inv X pins0 σ H0 s0 /\ CXr X.prog X.w X.stack H0 s0 E v s1 }
section
variable {X:Cx} {pins pins0:List (Addr×Obj)} {σ:St} {H:Hp} {s:Shared} {E:XK}
theorem Cx.Ok.tr (ok:X.Ok):(X.tr pins0 E).Ok:=
 ⟨ok.mod,ok.kind,ok.glob,ok.blt,ok.above,ok.inj,ok.has,ok.cab,ok.hd,ok.frames,ok.stk,ok.exf,ok.bs,ok.bsz,ok.noex,ok.exfs,ok.funs,ok.frf⟩
theorem Cx.Ok.untr (ok:(X.tr pins0 E).Ok):X.Ok:=
 ⟨ok.mod,ok.kind,ok.glob,ok.blt,ok.above,ok.inj,ok.has,ok.cab,ok.hd,ok.frames,ok.stk,ok.exf,ok.bs,ok.bsz,ok.noex,ok.exfs,ok.funs,ok.frf⟩
theorem Inv.tr (I:Inv X pins0 σ H s):Inv (X.tr pins0 E) [] σ H s:=⟨I.ok.tr,I.os,I.bare,I.base,I.loc,I.cell,I.free,I.freeC,fun p hp=>I.pin p (by rw [List.append_nil] at hp; exact hp),I.hok,I.len⟩
theorem Inv.untr (I:Inv (X.tr pins0 E) pins σ H s):Inv X pins0 σ H s:=⟨I.ok.untr,I.os,I.bare,I.base,I.loc,I.cell,I.free,I.freeC,fun p hp=>I.pin p (List.mem_append_left _ hp),I.hok,I.len⟩
theorem zlp:Passes (CXr X.prog X.w) (X.tr pins0 E) E:=fun _ σ H s _ _ I h=>⟨σ,H,s,I.untr,h⟩
end
noncomputable abbrev exD (a:Addr) (c:Str):D:=.dict [(.list [],.tuple [.int (a:Nat),.str c])]
noncomputable def gTry (gb:DS->Option Res) (hand:Str->Option D):DS->Option Res:=fun δ=>(gb δ).bind fun r=>match r with
 | .rt d=>(match isRx d with
   | some c=>(hand c).bind fun d'=>some (.rt d')
   | none=>some (.rt d))
 | r=>some r
theorem Rel.caught {K:Frag} {O:List Nat} {A0:List Addr} {σ:St} {H1:Hp} {n i:Nat} {a C:Addr} {c:Str} (hl:σ.length=n) (hi:i < n) (hO:i∉O) (al:Ls A0 H1) (ta:H1 a=none) (hns:nsIn K mainGlobals c=some (some (.ref C))):
  Rel K O [] A0 (σ.set i (some (.ref a))) ((List.replicate n none).set i (some (exD a c))) (upd H1 a (ExO a C)):=by
 have get:∀ (j:Nat) d,((List.replicate n (none:Option D)).set i (some (exD a c)))[j]?=some (some d)->j=i /\ d=exD a c:=fun j d q=>by
  by_cases hj:i=j
  ·subst hj
   rw [List.getElem?_set_self (by rw [List.length_replicate]; exact hi)] at q
   cases q
   exact ⟨rfl,rfl⟩
  ·rw [List.getElem?_set_ne hj] at q
   have:=List.mem_of_getElem? q
   rw [List.mem_replicate] at this
   exact absurd this.2 (fun z=>nomatch z)
 exact {
  len:=by rw [List.length_set,List.length_set,List.length_replicate]; exact hl
  fz:=fun j d _ q=>by
   obtain ⟨rfl,rfl⟩:=get j d q
   exact ⟨.ref a,List.getElem?_set_self (by rw [hl]; exact hi),.exc hns (by show wo (upd H1 a (ExO a C)) A0 a=_; rw [zT (fun z=>al.free ta z)]; exact zH)⟩
  ow:=fun j d hj q=>absurd hj (by rw [(get j d q).1]; exact hO)
  inj:=fun j k d e l hj _ _ q _ _ _=>absurd hj (by rw [(get j d q).1]; exact hO)
  al:=al.same (z0 ta _) }
section
variable {X:Cx} {O:List Nat} {T n:Str} {Tv:Value} {tp hpos pos:Pos} {body suite:List Stmt} {b₀:Stmt} {gb:DS->Option Res} {gs:Addr->DS->Option Res} {hand:Str->Option D} {xk:Str->Hp->Prop} {i:Nat}
theorem znE {b:Bool} (hb:∀ pins0 E,PSs (X.tr pins0 E) body (tS X.K O (b,xkOf X.mg E) gb)) (hs:∀ a,PSs (X.inX a) (b₀ :: suite) (tS X.K O (b,fun _ _=>True) (gs a)))
  (hcl:∀ c d,hand c=some d->∃ C,nsIn X.K mainGlobals c=some (some (.ref C)) /\ X.mg c=some (.ref C) /\ exmOne X.K (.ref C) Tv=some true)
  (hh:∀ a c d,hand c=some d->gs a ((List.replicate X.N.length none).set i (some (exD a c)))=some (.rt d)) (hT:X.mg T=some Tv) (hN:X.N.Nodup) (hi:X.N[i]?=some n:=by rfl) (hiO:i∉O:=by decide)
  (hl:X.env.scope.names.lookup n=some .local:=by rfl) (hgT:Gl X T:=by rfl) (hst:X.stack=X.env :: X.outer:=by rfl) (hfr:X.env.frame=some X.env.locals:=by rfl) (hdT:(T == ("__debug__":Str))=false:=by decide):
  PS X (.Try body [.ExceptHandler (some (.Name T tp)) (some n) (b₀ :: suite) hpos] [] [] pos) (tS X.K O (b,xk) (gTry gb hand)):=by
 rintro pins s σ H D I ⟨H00,U,A0,δ,r,R,F,ed,P⟩
 obtain ⟨r0,e1,e2⟩:=bind1 ed
 refine wpAny_Try_except ?_
 refine wpAny_mono (hb pins (fun cv _ H2=>∃ c C,r0=.rt (rxD c) /\ cv=.ref C /\ X.mg c=some (.ref C) /\ Same H00 H2) [] s σ H D I.tr ⟨H00,U,A0,δ,r0,R,F,e1,?_⟩) (fun fl s1 hq=>?_) ?_
 ·cases r0 with
  | nx δ'=>cases e2; exact P
  | bk δ'=>cases e2; exact P
  | ct δ'=>cases e2; exact P
  | rt d=>
    cases hx:isRx d with
    | none=>
      simp only [hx] at e2
      cases e2
      exact ⟨P.1,fun c H' hd s=>by subst hd; cases hx⟩
    | some c=>
      have hd:=zdv hx
      subst hd
      exact ⟨fun v H' h=>(zkC h).elim,fun c' H' hd s C hC=>⟨c',C,by rw [hd],rfl,hC,s⟩⟩
 ·cases fl with
  | next=>obtain ⟨σ',H',I',q⟩:=hq; exact wpAny_execs_nil ⟨σ',H',I'.untr,q⟩
  | brk=>obtain ⟨σ',H',I',q⟩:=hq; exact ⟨σ',H',I'.untr,q⟩
  | cont=>obtain ⟨σ',H',I',q⟩:=hq; exact ⟨σ',H',I'.untr,q⟩
  | ret u=>obtain ⟨v,σ',H',I',rv,q⟩:=hq; exact ⟨v,σ',H',I'.untr,rv,q⟩
 rintro v s1 ⟨σ0,H0,s0,I0,a,t,C,B,H1,rfl,os,bare,un,hok,na,ta,cov,fly,nc0,c,C',er,hC,hm,hsame⟩
 cases hC
 subst er
 have e3:((hand c).bind fun d'=>some (Res.rt d'))=some r:=e2
 obtain ⟨d,hd,hr⟩:=bind1 e3
 cases hr
 obtain ⟨C2,hns,hm2,hex⟩:=hcl c d hd
 rw [hm] at hm2
 cases hm2
 have fr:=fly.2.2.1
 have st:=fly.1
 have fly':Heap.FlyingW B (X.env :: X.outer) a (.ref C) (.ref t) s1.heap:=by rw [<- hst]; exact fly
 have nf:∀ b∈frs X.stack,H1 b=none:=fun b hb=>by
  obtain ⟨_,o,ho,_⟩:=I0.stack.mem hb
  exact un.free b o ho (I0.stkFree b hb) fun z=>nomatch z
 have again:∀ {h2:Heap},Heap.FlyingW B (X.env :: X.outer) a (.ref C) (.ref t) h2->s1.heap.UpToSlots h2->Inv X pins σ0 H1 { s1 with heap:=h2 }:=fun {h2} fly2 up2=>
  I0.call' (ch:=[]) os (zjn un cov st fly2.1 up2 fr) (zgi hok cov st fly2.1 nf) bare (fun b z=>nomatch z)
 refine zhM (I0.ok.frames.trans (congrArg some hst)) hfr fly' nc0 fun h4 held nc4 up4=>?_
 refine landsX held nc4 fun h5 fly5 nc5 up5=>?_
 have I5:=again fly5 (up4.trans up5)
 have LT:Looks (model X.prog X.w) h5 (typeOf (.ref a)) (.ref C):=by
  obtain ⟨ob,hob,hc⟩:=fly5.there
  rw [<- hc]
  exact (Looks.ld hob).andThen Looks.now
 refine wpAny_handleBy_cons (codeAny_handlers_test (zcA (I5.inX a) hgT hT ?_ hdT)) (by intro q; cases q)
 refine (exm_one (M:=model X.prog X.w) I5.kIn LT hex).here ?_
 refine codeAny_handlers_suite_as (zfC fly5 nc5 fun h6 fly6 nc6 up6=>?_)
 have I6:=again fly6 ((up4.trans up5).trans up6)
 have hnew:∃ o,h6.get? a=some o /\ o.cls=.ref C:=fly6.there
 have I6t:=I6.trackX (o:=ExO a C) I0 na ta ⟨⟨hnew,nc6⟩,let ⟨o,q,_⟩:=hnew; ⟨o,q⟩,fun h1 h2 ⟨⟨o,q,c⟩,⟨o2,fs,q2,c2⟩⟩ kk=>⟨⟨o,kk o q,c⟩,⟨o2,fs,kk o2 q2,c2⟩⟩⟩
 refine zch (X:=X.inX a) (v:=.ref a) (I6t.inX a) hN hi (.inl hl) rfl (fun s7 I7=>?_) (.inr hl)
 have hin:i < X.N.length:=(List.getElem?_eq_some_iff.mp hi).1
 refine wpAny_mono (hs a pins s7 _ _ { nx:=fun _ _=>False,rt:=D.rt } I7 ⟨H00,[],A0,_,.rt d,Rel.caught I0.len hin hiO (F.old.same hsame) ta hns,⟨hsame.trans (z0 ta _),fun _ z=>(by simp at z),F.old⟩,hh a c d hd,⟨fun v H' h=>P.1 v H' h,fun _ _ _ _=>trivial⟩⟩) (fun fl s8 hq=>?_) fun _ _ z=>z.elim
 cases fl with
 | ret u=>
   obtain ⟨v,σ',H',J,rv,q⟩:=hq
   obtain ⟨m,hn,_⟩:=id J.loc
   exact wpAny_nameGoes hl hn (by rw [I0.ok.kind]; rfl) fun h9 m' hn' hs'=>⟨v,_,H',(J.outX I0.ok).forget hn' hs',rv,q⟩
 | next=>obtain ⟨_,_,_,q⟩:=hq; exact q.elim
 | brk=>obtain ⟨_,_,_,q⟩:=hq; exact q.elim
 | cont=>obtain ⟨_,_,_,q⟩:=hq; exact q.elim
end
noncomputable def isX (c T:Str):Bool:=decide (c=T) || decide (T="ValueError") || decide (T="LotError")
noncomputable def exP:D->Option (Int×Str)
 | .dict (p :: _)=>(match p.1 with
   | .list _=>(match p.2 with
     | .tuple (.int a :: .str c :: _)=>some (a,c)
     | _=>none)
   | _=>none)
 | _=>none
noncomputable def gIsiX (cs:List Str) (T:Str) (g:DS->Option D):DS->Option D:=fun δ=>(g δ).bind fun d=>(exP d).bind fun y=>if y.2∈cs then some (.bool (isX y.2 T)) else none
noncomputable def ClT (K:Frag) (cs:List Str) (T:Str) (Tv:Value):Prop:=∀ c∈cs,∀ C,nsIn K mainGlobals c=some (some (.ref C))->XCls K C /\ kitOne K (.ref C) Tv=some (isX c T)
theorem zix {kds:List (D×D)} {kvs:List (List Key×V)} {y:Int×Str} (k:kds.map (·.1)=kvs.map (fun p=>PyData.tuple (p.1.map keyD))) (e:exP (.dict kds)=some y):False:=by
 cases kds with
 | nil=>cases e
 | cons p r=>
   obtain ⟨d,d'⟩:=p
   refine zf1 k fun l z=>?_
   subst z
   cases e
theorem ShD.excP {K:Frag} {A:List Addr} {H:Hp} {v:V} {d:D} {y:Int×Str} (h:ShD K A H v d) (e:exP d=some y):∃ a C:Addr,y.1=(a:Nat) /\ v=.ref a /\ nsIn K mainGlobals y.2=some (some (.ref C)) /\ H a=some (ExO a C):=by
 rcases h with h | ⟨l,o,rfl,e',q⟩
 ·cases h with
  | dct _ k _=>exact (zix k e).elim
  | exc k h=>cases e; exact ⟨_,_,rfl,rfl,k,(zb4 h).2⟩
  | _=>cases e
 ·cases q with
  | dct k _=>exact (zix k e).elim
  | lst _=>cases e
section
variable {X:Cx} {O:List Nat} {e:Expr} {ga:DS->Option D} {pos p p2:Pos} {T:Str} {Tv:Value} {cv:V}
set_option tactic.hygienic true in
theorem zir (cs:List Str) (hB:X.mg "isinstance"=none) (ha:PE X e (tSh X.K O ga)) (ht:PE X (.Name T p2) (tC cv)) (hcv:∀ u,RelV cv u->u=Tv) (hT:ClT X.K cs T Tv) (hg:Gl X "isinstance":=by rfl)
  (he:starEach [e,.Name T p2] X.env=(false,eval e X.env) :: starEach [.Name T p2] X.env:=by rfl) (he2:starEach [.Name T p2] X.env=(false,eval (.Name T p2) X.env) :: starEach [] X.env:=by rfl) (hpl:(backTo pos (starEach [.Name T p2] X.env)).any (·.1)=false:=by rfl):
  PE X (.Call (.Name "isinstance" p) [e,.Name T p2] [] pos) (tE X.K O (gIsiX cs T ga)):=
 (zcY zhU hg hB zca (zab ha (zab ht za0 he2) he) (by decide) (by decide) he hpl).mono fun σ H Q hh=>hh.e fun U A0 δ d R ed q=>by
  obtain ⟨x,e1,e2⟩:=bind1 ed
  obtain ⟨y,e3,e4⟩:=bind1 e2
  split at e4
  ·rename_i hz
   cases e4
   refine ⟨U,A0,δ,_,R,e1,fun v H' s h=>?_⟩
   obtain ⟨a,C,_,rfl,hns,hH⟩:=h.excP e3
   obtain ⟨xc,kt⟩:=hT _ hz C hns
   exact ⟨a,C,cv,_,rfl,hH,xc,q _ H' s (.bl _),.inl ⟨Tv,hcv,kt⟩⟩
  ·cases e4
end
noncomputable def hxG (x:Addr) (X:Cx):Prop:=X.A.handled=some (.ref x)
noncomputable def Itrx (x:Addr) (lo:Int) (n:Nat):It:=⟨fun i _=>i < n,fun i H v H'=>H'=H /\ v=.int (lo + i),fun i H=>n<=i /\ ∃ C,H x=some (ExO x C)⟩
theorem zgw {P:Program} {w:World} {K:Frag} {tg:Expr} (x it:Addr) (lo:Int) (n:Nat):TurnG (hxG x) P w K tg (Itrx x lo n) [it] it (fun i h=>IsRangeIter h it (lo + (i:Nat) * 1) ((n:Int) - (i:Nat)) 1) where
 mem:=by simp
 obj:=fun i h st b hb=>by
  have e:b=it:=by simpa using hb
  subst e
  exact ⟨_,st,fun v z=>by
   have z':Data.fields _=Data.cell v:=z
   cases z'⟩
 keep:=fun i h h' st k=>k it (by simp) _ st
 item:=by
  intro X hP hw hK hc i pins s σ H E I hf st hg
  subst hP hw hK
  obtain ⟨f0,f1,f2,f3,f4,f5⟩:=hf it (by simp)
  have hg':i < n:=hg
  refine wpAny_pyNext_range_item st (by omega) fun h' hit' hs'=>?_
  have st':IsRangeIter h' it (lo + ((i + 1:Nat):Int) * 1) ((n:Int) - ((i + 1:Nat):Int)) 1:=by
   have e1:lo + ((i + 1:Nat):Int) * 1=lo + (i:Int) * 1 + 1:=by push_cast; omega
   have e2:(n:Int) - ((i + 1:Nat):Int)=(n:Int) - (i:Int) - 1:=by push_cast; omega
   rw [e1,e2]; exact hit'
  have I1:Inv X pins σ H { s with heap:=h',toks:=s.toks + 1 }:=I.turned (fun b o hb e=>hs'.extBut b o hb e) f0 f1 f3 f4 f5
  refine ⟨_,rfl,zkO (s:={ s with heap:=h',toks:=s.toks + 1 }) (n:="range_iterator") st' rfl rfl (by decide) ⟨.int (lo + i),H,I1,⟨s.toks,?_⟩,⟨rfl,rfl⟩,st',fun b hb=>(hf b hb).1⟩⟩
  rw [Int.mul_one]
 done:=by
  intro X hP hw hK hc i pins s σ H E I hf st hg
  subst hP hw hK
  obtain ⟨f0,f1,f2,f3,f4,f5⟩:=hf it (by simp)
  obtain ⟨hn,C,hC⟩:=hg
  obtain ⟨ox,fs,ho,hd,h2⟩:=(show NoCtx s.heap x from (I.hok x _ hC).1.2)
  exact zej hc ho hd h2 st (by omega) fun h' eb=>⟨rfl,I.turned (t':=s.toks) (fun b o hb e=>eb b o hb e) f0 f1 f3 f4 f5⟩
 self:=fun _ _ _ _ _ st h=>wpAny_pyIter_rangeiter st h
section
variable {X:Cx} {tg:Expr}
theorem zhT {x:Addr} {pins:List (Addr×Obj)} {σ:St} {H:Hp} {s:Shared} {R:It->Hp->Prop} {E:Value->Shared->Prop} {lo hi:Int} {t u v:Tok} {tk:Nat} (I:Inv X pins σ H s) (h1: -(2 ^ 62)<=lo) (h2:lo < 2 ^ 62) (h3: -(2 ^ 62)<=hi) (h4:hi < 2 ^ 62)
  (q:R (Itrx x lo (hi - lo).toNat) H):wpAny (model X.prog X.w) X.A (pyIter (.ref s.heap.objs.size)) (PIEG (hxG x) X pins σ tg R) E { s with heap:=s.heap.push { cls:=.type "range",data:=.fields #[.int lo t,.int hi u,.int 1 v] },toks:=tk }:=by
 refine wpAny_pyIter_range (IsRange.new ..) (small_one h1 h2 h3 h4) ?_
 have I1:Inv X pins σ H { s with heap:=s.heap.push { cls:=.type "range",data:=.fields #[.int lo t,.int hi u,.int 1 v] },toks:=tk }:=I.kept fun b o e=>Heap.get?_push_of_some _ e
 refine ⟨(s.heap.push { cls:=.type "range",data:=.fields #[.int lo t,.int hi u,.int 1 v] }).objs.size,[(s.heap.push { cls:=.type "range",data:=.fields #[.int lo t,.int hi u,.int 1 v] }).objs.size],_,_,H,rfl,
  I1.kept (t':=tk) fun b o e=>Heap.get?_push_of_some _ e,zgw x _ lo (hi - lo).toNat,?_,fun b hb=>?_,q⟩
 ·have e1:lo + ((0:Nat):Int) * 1=lo:=by simp
  have e2:(((hi - lo).toNat:Nat):Int) - ((0:Nat):Int)=Builtin.Range.rangeSize lo hi 1:=by rw [rangeSize_one]; split <;> omega
  show IsRangeIter _ _ (lo + ((0:Nat):Int) * 1) ((((hi - lo).toNat:Nat):Int) - ((0:Nat):Int)) 1
  rw [e1,e2]
  exact Heap.get?_push_size _ rfl
 ·have e:b=(s.heap.push { cls:=.type "range",data:=.fields #[.int lo t,.int hi u,.int 1 v] }).objs.size:=by simpa using hb
  subst e
  exact I1.fpOk (Nat.le_refl _) (I1.hok.fresh (Nat.le_refl _))
noncomputable def gRange1X (x:Addr) (j:Nat) (g:DS->Option (List D)):DS->Option (List D):=fun δ=>((δ[j]?).join.bind exP).bind fun y=>if y.1=(x:Nat) then gRange1 g δ else none
set_option tactic.hygienic true in
theorem zhE {O:List Nat} {a:Expr} {gr:DS->Option (List D)} {p pos:Pos} (x:Addr) (j:Nat) (hm:X.mg "range"=none) (ha:PA X [a] (tAs X.K O gr)) (hg:Gl X "range":=by rfl) (hs:starEach [a] X.env=[(false,eval a X.env)]:=by rfl):
  PIG (hxG x) X tg (.Call (.Name "range" p) [a] [] pos) (tIc X.K O (gRange1X x j gr)):=by
 rintro pins s σ H Q I ⟨U,A0,δ,ds,R,ed,q⟩
 obtain ⟨y,ey,ed2⟩:=bind1 ed
 obtain ⟨d0,hj,ej⟩:=bind1 ey
 ·split at ed2
  ·rename_i ha0
   obtain ⟨v0,_,hv0⟩:=R.at (zy hj)
   obtain ⟨a1,C,ea,_,_,hH⟩:=hv0.excP ej
   have hax:a1=x:=Int.ofNat.inj (ea.symm.trans ha0)
   subst hax
   obtain ⟨xs,e1,e2⟩:=bind1 ed2
   split at e2
   ·split at e2
    ·rename_i j0 hz
     cases e2
     refine Call_ (zcT I hg hm boot_range (PyProof.Rows.callWith_type1 (thn (ha pos pins s σ H (fun vs H1=>Same H H1 /\ HDs X.K (wo H1 (U ++ A0)) vs [.int j0]) I ⟨U,A0,δ,_,R,e1,fun vs H' s h=>⟨s,h⟩⟩) fun us s1 ⟨vs,H1,I1,r1,s1',h1⟩=>?_) hs rfl))
     cases h1 with
     | cons h1 h2=>
       cases h2
       cases h1
       cases r1 with
       | cons r rr=>
         cases rr
         obtain ⟨t,rfl⟩:=r
         refine call_range_1 (zhT (x:=a1) I1 (by omega) (by omega) hz.1 hz.2 (q _ H1 s1' fun i H2 s2=>⟨fun d hd=>?_,fun hi=>?_⟩))
         ·rw [Int.sub_zero]
          obtain ⟨hi,rfl⟩:=zdW hd
          refine ⟨hi,fun y H3 hy=>?_⟩
          obtain ⟨rfl,rfl⟩:=hy
          exact ⟨Same.refl _,.int _⟩
         ·rw [zdV] at hi
          subst hi
          rw [Int.sub_zero]
          exact ⟨Nat.le_refl _,C,s2 _ _ (s1' _ _ hH)⟩
    ·cases e2
   ·cases e2
  ·cases ed2
end
section
variable {X:Cx} {O:List Nat} {scope:Scope} {elt iter tg:Expr} {ifs:List Expr} {pos:Pos} {gi:DS->Option (List D)} {ge:DS->Option D} {gt:D->DS->Option DS} {gc:DS->Option Bool} {k:Nat}
end
structure FnW (P:Program) (w:World) (K:Frag) (mg:Str->Option Value) (base:Heap) (k:Nat) (f:Addr) (fd:FuncData) (ps:List Str) (sp:Addr->Sp):Prop where
 len:∀ x vs H Q E,sp x vs H Q E->vs.length=ps.length
 run:∀ (x:Addr) (A:Around) (outer:List Env) (s:Shared) (H:Hp) (args:Args) (us:List Value) (vs:List V) (Q:VK) (E:XK),RoomX k A->A.handled=some (.ref x)->Env0 P w K mg base A outer s H->BindsTo s fd args (ps.zip us)->Vals vs us->sp x vs H Q E->
  codeAny (model P w) A (.call (.ref f) args) (CR CX0 outer P w H s Q E) s
section
variable {P:Program} {w:World} {K:Frag} {mg:Str->Option Value} {base:Heap}
theorem zno {k:Nat} {f:Addr} {name qual:Str} {params:Arguments} {body:List Stmt} {scope:Scope} {dV kV doc pm cdv ct oc:Value} {an od:Option Addr} {osl:Array (Option Value)} {N ps:List Str} {sp:Addr->Sp}
  (lk:K.lookup f=some ⟨oc,od,.func (fnOf name qual params body scope dV kV doc pm an cdv ct),osl⟩) (hcd:codeIn K cdv qual=true) (S:FnScope N ps scope) (len:∀ x vs H Q E,sp x vs H Q E->vs.length=ps.length)
  (hbody:∀ (x:Addr) (A:Around) (outer:List Env) (s:Shared) (H:Hp) (vs:List V) (Q:VK) (E:XK),RoomX k (A.deeper (envOfC qual scope s.heap.objs.size f cdv))->A.handled=some (.ref x)->sp x vs H Q E->
   ∃ t,PSs (cxX P w K mg base N qual scope f cdv A outer s H) body t /\ t { nx:=fun _ H'=>Q .non H',rt:=Q } (start N vs) H):
  FnW P w K mg base (k + 1) f (fnOf name qual params body scope dV kV doc pm an cdv ct) ps sp:=by
 refine ⟨len,fun x A outer s H args us vs Q E hr hx e0 hb r hsp=>?_⟩
 have KX:K.In s.heap:=e0.mod.kin.keeps fun b o e=>(e0.bs b o e).1
 have lim:s.heap.NoLimit:=e0.mod.nolimit.keeps fun b o e=>(e0.bs b o e).1
 obtain ⟨t,ht,hq⟩:=hbody x A outer s H vs Q E (hr.deeper _) hx hsp
 have hkind:∀ y∈ps.zip us,scope.names.lookup y.1=some .local \/ (scope.names.lookup y.1=some .cell /\ ((cellsFrom (s.heap.objs.size + 1) scope.names []).lookup y.1).isSome=true):=fun ⟨n,v⟩ hy=>
  (S.par n (List.of_mem_zip hy).1).elim .inl fun q=>.inr ⟨q,cellsFrom_some _ _ _ (.inl q)⟩
 refine codeAny_call_function (by have:=hr.dp; omega) (KX _ _ lk) rfl S.co S.gen rfl (codeRec_of KX hcd) (hb _ _ _ _ (wpAny_newFunctionEnv_cells S.kind hkind fun env he s1 x=>?_))
 subst he
 refine ⟨lim.keeps x.toInCall.keep,codeAny_func ?_⟩
 have e1:Env0 P w K mg base { A with handled:=none } outer s H:=⟨e0.frames,e0.mod,e0.bs,e0.bsz,e0.funs,e0.frf,e0.hok,e0.bare⟩
 have J:Inv (cxOf CX0 P w K mg base N qual scope f cdv { A with handled:=none } outer s H E0) [] (start N vs) H s1:=zfa S rfl e1 (len _ _ _ _ _ hsp) r x
 have I:Inv (cxX P w K mg base N qual scope f cdv A outer s H) [] (start N vs) H s1:=
  ⟨⟨J.ok.mod,J.ok.kind,J.ok.glob,J.ok.blt,J.ok.above,J.ok.inj,J.ok.has,J.ok.cab,(fun z=>nomatch z),Around.frames_deeper e0.frames,J.ok.stk,J.ok.exf,J.ok.bs,J.ok.bsz,J.ok.noex,J.ok.exfs,J.ok.funs,J.ok.frf⟩,
    J.os,J.bare,J.base,J.loc,J.cell,J.free,J.freeC,J.pin,J.hok,J.len⟩
 refine wpAny_mono (ht [] s1 (start N vs) H _ I hq) (fun fl s' hs=>?_) fun e s' hs=>hs.elim
 cases fl with
 | ret u=>
   obtain ⟨v,σ',H',J',rv,q⟩:=hs
   exact ⟨v,H',J'.os,J'.bare,J'.base,J'.hok,rv,q⟩
 | next=>
   obtain ⟨σ',H',J',q⟩:=hs
   exact ⟨.non,H',J'.os,J'.bare,J'.base,J'.hok,rfl,q⟩
 | brk=>obtain ⟨_,_,_,q⟩:=hs; exact q.elim
 | cont=>obtain ⟨_,_,_,q⟩:=hs; exact q.elim
noncomputable def DnW (P:Program) (w:World) (K:Frag) (mg:Str->Option Value) (base:Heap) (k:Nat) (x:Str) (ps:List Str) (sp:Addr->Sp):Prop:=
 ∃ f fd,FnW P w K mg base k f fd ps sp /\ mg x=some (.ref f) /\ keepIn K (.ref f)=true /\ Binds K fd ps []
theorem zl3 {x:Str} {st:Stmt} {N ps:List Str} {k:Nat} (O:List Nat) (g:Addr->DS->Option Res) (F:Df K mg x st ps) (S:FnScope N ps (defScope st))
  (body:∀ (y f:Addr) (cdv:Value) (A:Around) (outer:List Env) (s:Shared) (H:Hp),RoomX k (A.deeper (envOfC x (defScope st) s.heap.objs.size f cdv))->A.handled=some (.ref y)->PSs (cxX P w K mg base N x (defScope st) f cdv A outer s H) (defBody st) (tS K O (false,fun _ _=>True) (g y)))
  (hO:∀ i∈O,ps.length<=i:=by decide) {n m:Nat} (hN:N.length=n:=by rfl) (hP:ps.length=m:=by rfl):DnW P w K mg base (k + 1) x ps (fun y=>spD K m (gDef n (g y))):=by
 subst hN hP
 obtain ⟨f,fd,F,m,b⟩:=F
 have kp:=F.kp
 obtain ⟨oc,od,kV,doc,pm,an,cdv,ct,osl,rfl,lk,hcd⟩:=F.ex
 refine ⟨f,_,zno lk hcd S (fun y vs H Q E h=>h.1) (fun y A outer s H vs Q E hr hy h=>⟨_,body y f cdv A outer s H hr hy,?_⟩),m,kp,b⟩
 obtain ⟨hn,A',ds,d,al,hd,e,q⟩:=h
 obtain ⟨r,e1,e2⟩:=bind1 e
 refine ⟨H,[],A',_,r,Rel.start al hd (fun i hi=>by have:=hO i hi; rw [<- hd.len,hn]; exact this),Fx.start al,e1,?_⟩
 cases r with
 | nx δ=>cases e2; exact fun U σ H' R F'=>q .non H' F'.same .non
 | rt d=>cases e2; exact ⟨fun v H' h=>by unfold RetR at h; rw [if_neg Bool.false_ne_true] at h; exact q v H' h.1 h.2,fun _ _ _ _=>trivial⟩
 | bk _=>cases e2
 | ct _=>cases e2
end
set_option tactic.hygienic true in
theorem zkh {X:Cx} {O:List Nat} {y:Addr} {k kk n:Nat} {ps:List Str} {G:Addr->List D->Option D} {x:Str} {p pos:Pos} {e:Expr} {es:List Expr} {gr:DS->Option (List D)} (F:DnW X.prog X.w X.K X.mg X.base k x ps (fun y=>spD X.K n (G y))) (hr:RoomX kk X.A) (hk:k<=kk) (hy:X.A.handled=some (.ref y))
  (ha:PA X (e :: es) (tAs X.K O gr)) (hg:Gl X x:=by rfl) (hdb:(x == ("__debug__":Str))=false:=by decide) (he:starEach (e :: es) X.env=(false,eval e X.env) :: starEach es X.env:=by rfl) (hpl:(backTo pos (starEach es X.env)).any (·.1)=false:=by rfl):
  PE X (.Call (.Name x p) (e :: es) [] pos) (tE X.K O (gCall (G y) n gr)):=by
 obtain ⟨f,fd,F,hm,kp,hb⟩:=F
 rintro pins s σ H Q I ⟨U,A0,δ,d,R,ed,q⟩
 obtain ⟨ds,e1,e2⟩:=bind1 ed
 split at e2
 rotate_left
 ·cases e2
 rename_i hn
 refine wpAny_Call_Name_kw (zcA I hg hm ?_ hdb)
 refine callWith_K (h₀:=X.base) I.ok.mod.kin kp (thn (ha pos pins s σ H (fun vs H1=>spD X.K n (G y) vs H1 Q E0) I ⟨U,A0,δ,ds,R,e1,fun vs H' s h=>⟨by rw [h.len]; exact hn,U ++ A0,ds,d,(R.same s).al,h,e2,fun v H2 s2 h2=>q v H2 (s.trans s2) h2⟩⟩) fun us s1 ⟨vs,H1,I1,r,q⟩=>⟨I1.kIn,?_⟩) he hpl
 have hlen:us.length=ps.length:=by rw [<- r.length]; exact F.len _ _ _ _ _ q
 refine wpAny_call (codeAny_mono (F.run y X.A X.stack s1 H1 ⟨us,[]⟩ us vs _ _ (hr.mono hk) hy I1.env0 (by have:=hb s1 us I1.kIn (by rw [List.append_nil]; exact hlen); rwa [List.append_nil] at this) r q) fun rr s' hq=>?_)
 cases rr with
 | error v=>exact False.elim hq
 | ok fl=>
   cases fl with
   | ret u=>exact I1.after hq
   | next=>exact False.elim hq
   | brk=>exact False.elim hq
   | cont=>exact False.elim hq
noncomputable def handOf (cs:List Str) (f:Str->D):Str->Option D:=fun c=>if c∈cs then some (f c) else none
theorem zdu {cs:List Str} {f:Str->D} {c:Str} {d:D} (h:handOf cs f c=some d):c∈cs /\ d=f c:=by
 unfold handOf at h
 split at h
 ·cases h; exact ⟨by assumption,rfl⟩
 ·cases h
theorem zhe {cs:List Str} {f:Str->D} {c:Str} {d:D} (h:handOf cs f c=some d):c∈cs:=(zdu h).1
theorem zl6 {W:List D->Option D} {i:Nat} {δ:DS} {x d:D} (e:gVar i δ=some x) (h:W [x]=some d):gRet (gCall W 1 (gConsA (gVar i) gNilA)) δ=some (.rt d):=by
 have e2:gCall W 1 (gConsA (gVar i) gNilA) δ=some d:=by
  unfold gCall gConsA gNilA
  rw [e]
  exact h
 unfold gRet
 rw [e2]; rfl
theorem zcp {x:Addr} {j:Nat} {c:Str} {g:DS->Option (List D)} {δ:DS} (e:(δ[j]?).join=some (exD x c)):gRange1X x j g δ=gRange1 g δ:=by
 unfold gRange1X
 rw [e]
 exact if_pos rfl
theorem zg7 {gi gi':DS->Option (List D)} {k:Nat} {ix:List Nat} {gt:D->DS->Option DS} {gc:DS->Option Bool} {ge:DS->Option D} {δ:DS} (h:gi δ=gi' δ):gCompL gi k ix gt gc ge δ=gCompL gi' k ix gt gc ge δ:=by unfold gCompL; rw [h]
noncomputable def ClTs (K:Frag) (mg:Str->Option Value) (cs TS:List Str):Prop:=∀ T∈TS,∃ C,mg T=some (.ref C) /\ ClT K cs T (.ref C)
noncomputable def ClEs (K:Frag) (mg:Str->Option Value) (L:Addr) (cs:List Str):Prop:=∀ c∈cs,∃ C,nsIn K mainGlobals c=some (some (.ref C)) /\ mg c=some (.ref C) /\ exmOne K (.ref C) (.ref L)=some true
theorem zar {X:Cx} {O:List Nat} {e:Expr} {ga:DS->Option D} {pos p p2:Pos} {T:Str} (cs TS:List Str) (CT:ClTs X.K X.mg cs TS) (hTS:T∈TS) (hB:X.mg "isinstance"=none) (ha:PE X e (tSh X.K O ga)) (hgT:Gl X T:=by rfl) (hdT:(T == ("__debug__":Str))=false:=by decide) (hg:Gl X "isinstance":=by rfl)
  (he:starEach [e,.Name T p2] X.env=(false,eval e X.env) :: starEach [.Name T p2] X.env:=by rfl) (he2:starEach [.Name T p2] X.env=(false,eval (.Name T p2) X.env) :: starEach [] X.env:=by rfl) (hpl:(backTo pos (starEach [.Name T p2] X.env)).any (·.1)=false:=by rfl):
  PE X (.Call (.Name "isinstance" p) [e,.Name T p2] [] pos) (tE X.K O (gIsiX cs T ga)):=by
 obtain ⟨C,m,k⟩:=CT T hTS
 exact zir cs hB ha (zbG (v:=.ref C) ⟨_,m,rfl⟩ hgT hdT) (fun u r=>r) k hg he he2 hpl
noncomputable def isCls:Option Obj->Bool
 | some ⟨_,_,.cls _,_⟩=>true
 | _=>false
noncomputable def xclsB (K:Frag) (C:Addr):Bool:=isCls (K.lookup C) && subIn K (.ref C) (.type "object") == some true && subIn K (.ref C) (.type "BaseException") == some true && findIn K (.ref C) "__class__" == some (some (.builtin "object.__class__")) &&
 findIn K (.ref C) "__getattribute__" == some (some (.builtin "BaseException.__getattribute__")) && findIn K (.ref C) "__getattr__" == some none
theorem zl5 {K:Frag} {C:Addr} (q:xclsB K C=true):XCls K C:=by
 unfold xclsB at q
 simp only [Bool.and_eq_true,beq_iff_eq] at q
 obtain ⟨⟨⟨⟨⟨a,b⟩,c⟩,d⟩,e⟩,f⟩:=q
 refine ⟨?_,b,c,d,e,f⟩
 unfold isCls at a
 split at a
 ·exact ⟨_,_,_,_,by assumption⟩
 ·cases a
noncomputable def refOf:Option (Option Value)->Option Addr
 | some (some (.ref C))=>some C
 | _=>none
theorem zd7 {v:Option (Option Value)} {C:Addr} (h:refOf v=some C):v=some (some (.ref C)):=by
 unfold refOf at h
 split at h
 ·cases h; rfl
 ·cases h
noncomputable def clsB (K:Frag) (L:Addr) (cs TS:List Str):Bool:=(TS.all fun T=>(refOf (nsIn K mainGlobals T)).isSome) && cs.all fun c=>match refOf (nsIn K mainGlobals c) with
 | some C=>xclsB K C && exmOne K (.ref C) (.ref L) == some true && kitOne K (.ref C) (.type "ValueError") == some true && TS.all fun T=>match refOf (nsIn K mainGlobals T) with
   | some CT=>kitOne K (.ref C) (.ref CT) == some (isX c T)
   | none=>false
 | none=>false
section
variable {K:Frag} {L:Addr} {cs TS:List Str} {c:Str} {h:Heap} {mg:Str->Option Value}
set_option tactic.hygienic true in
theorem zeF (q:clsB K L cs TS=true) (hc:c∈cs):∃ C,nsIn K mainGlobals c=some (some (.ref C)) /\ XCls K C /\ exmOne K (.ref C) (.ref L)=some true /\ kitOne K (.ref C) (.type "ValueError")=some true /\
  ∀ T∈TS,∀ CT,nsIn K mainGlobals T=some (some (.ref CT))->kitOne K (.ref C) (.ref CT)=some (isX c T):=by
 unfold clsB at q
 rw [Bool.and_eq_true] at q
 have q1:=List.all_eq_true.mp q.2 c hc
 split at q1
 ·rename_i C hC
  simp only [Bool.and_eq_true,beq_iff_eq] at q1
  obtain ⟨⟨⟨a,b⟩,d⟩,e⟩:=q1
  refine ⟨C,zd7 hC,zl5 a,b,d,fun T hT CT hCT=>?_⟩
  have e1:=List.all_eq_true.mp e T hT
  rw [hCT] at e1
  exact beq_iff_eq.mp e1
 ·cases q1
theorem zl8 (X:K.In h) (G:h.Ns mainGlobals mg) (q:clsB K L cs TS=true):ClTs K mg cs TS:=fun T hT=>by
 have q0:=q
 unfold clsB at q0
 rw [Bool.and_eq_true] at q0
 have q1:=List.all_eq_true.mp q0.1 T hT
 obtain ⟨CT,hCT⟩:=Option.isSome_iff_exists.mp q1
 have hn:=zd7 hCT
 refine ⟨CT,mg_of X G hn,fun c hc C hC=>?_⟩
 obtain ⟨C',h1,h2,_,_,h5⟩:=zeF q hc
 rw [hC] at h1
 cases h1
 exact ⟨h2,h5 T hT CT hn⟩
theorem zmQ (q:clsB K L cs TS=true):ClT K cs "ValueError" (.type "ValueError"):=fun c hc C hC=>by
 obtain ⟨C',h1,h2,_,h4,_⟩:=zeF q hc
 rw [hC] at h1
 cases h1
 refine ⟨h2,h4.trans ?_⟩
 unfold isX
 simp
theorem zlA (X:K.In h) (G:h.Ns mainGlobals mg) (q:clsB K L cs TS=true):ClEs K mg L cs:=fun c hc=>by
 obtain ⟨C,h1,_,h3,_⟩:=zeF q hc
 exact ⟨C,h1,mg_of X G h1,h3⟩
theorem zhO (X:K.In h):(offC K).In h:=fun b o e=>by
 rw [zbw] at e
 split at e
 ·exact X b o e
 ·cases e
end
theorem zjq {es:List Expr} {p:Pos} {t:Option Expr} {l:Nat} {env:Env}:swapsWith (.List es p) t l env=pure false:=rfl
noncomputable def strsE:List Expr->Option (List Str)
 | []=>some []
 | .Constant (.str n) _ _ :: es=>(strsE es).map (n :: ·)
 | _=>none
noncomputable def gStrs (ns:List Str):DS->Option (List D):=fun _=>some (ns.map .str)
set_option tactic.hygienic true in
theorem zey {X:Cx} {O:List Nat}:∀ {es:List Expr} {ns:List Str},strsE es=some ns->PA X es (tAs X.K O (gStrs ns))
 | [],ns,h=>by
   cases h
   exact zg
 | e :: es,ns,h=>by
   unfold strsE at h
   split at h
   ·cases ‹_ :: _=[]›
   ·rename_i n k p es' he
    cases he
    cases q:strsE es with
    | none=>rw [q] at h; cases h
    | some ms=>
      rw [q] at h
      cases h
      exact za (zbC za8) (zey q) rfl
   ·cases h
theorem zoq:bootBuiltins "ValueError"=some (.type "ValueError"):=by decide +kernel
noncomputable abbrev VE:List Value:=[.type "ValueError",.type "Exception",.type "BaseException",.type "object"]
end L2
namespace L2
open PySem PySem.Spec PySem.W PyProof.Rows
theorem zjz {X:Cx} {O:List Nat} {scope:Scope} {elt iter tg:Expr} {ifs:List Expr} {pos:Pos} {gi:DS->Option (List D)} {ge:DS->Option D} {gt:D->DS->Option DS} {gc:DS->Option Bool} {k:Nat} {gd:Cx->Prop} (sc:Scope) (N:List Str) (ix:List Nat) (N' xs:List Str) (hc:∀ cl C s2 H2 fp pins,gd (compCx X scope N' cl C s2 H2 fp pins)) (own:Own k gt) (hi:PIG gd X tg iter (tIc X.K O gi))
  (hg:∀ cl C s2 H2 fp pins,PG (compCx X scope N' cl C s2 H2 fp pins) tg (tG X.K [] gt)) (hf:∀ cl C s2 H2 fp pins,PF (compCx X scope N' cl C s2 H2 fp pins) ifs (tT X.K [] gc)) (helt:∀ cl C s2 H2 fp pins,PE (compCx X scope N' cl C s2 H2 fp pins) elt (tE X.K [] ge))
  (hix:∀ j∈ix,j∉O:=by decide) (hk:compChkL sc scope N xs ix N'=true:=by decide +kernel) (hl:xs.length=k:=by rfl)
  (e1:X.env.scope=sc:=by rfl) (e2:X.N=N:=by rfl) (hs:∀ x,foldedSetIterable iter X.env x=pure x:=by intro _; rfl):PE X (.ListComp elt [⟨tg,iter,ifs,0⟩] scope pos) (tN X.K O (gCompL gi k ix gt gc ge)):=by
 subst hl
 exact (zfT (zcx hk e1 e2) hc hi hg hf helt hs).mono fun _ _ _=>zef own hix
theorem zdy {g g':DS->Option (List D)} {s:DS->Option D} {δ:DS} (h:g δ=g' δ):gRet (gJoin s (gLst g)) δ=gRet (gJoin s (gLst g')) δ:=by unfold gRet gJoin gLst; rw [h]
end L2
namespace L2
open PySem PySem.Spec PyProof.Rows
noncomputable def sumI:List Int->Int
 | []=>0
 | n :: ns=>n + sumI ns
theorem zc1:∀ a b:List Int,sumI (a ++ b)=sumI a + sumI b
 | [],b=>by rw [List.nil_append,sumI,Int.zero_add]
 | x :: a,b=>by rw [List.cons_append,sumI,zc1 a b,sumI,Int.add_assoc]
theorem ziF (ns:List Int):∀ k,k<=ns.length->preSum (fun i=>ns.getD i 0) k=sumI (ns.take k)
 | 0,_=>rfl
 | k + 1,h=>by
   have hk:k < ns.length:=h
   rw [preSum,ziF ns k (Nat.le_of_lt hk),List.take_add_one,List.getElem?_eq_getElem hk,zc1,List.getD_eq_getElem?_getD,List.getElem?_eq_getElem hk]
   show _=_ + (ns[k] + 0)
   rw [Int.add_zero]; rfl
theorem zja {X:Cx} (hc:X.calm=true):CallR X (.builtin "sum") (fun xs H Q=>∃ (p:Addr) (ns:List Int),xs=[.ref p] /\ SqL X.K H p (ns.map V.int) /\ Q (.int (sumI ns)) H):=by
 intro pins s σ H xs us Q I r h
 obtain ⟨p,ns,rfl,hq,q⟩:=h
 obtain ⟨u,rfl,rx⟩:=vals1 r
 cases rx
 obtain ⟨its,rv,pl,_⟩:=I.list hq
 have hl:=rv.length
 rw [List.length_map] at hl
 have hlt:p≠s.heap.objs.size:=by
  obtain ⟨o,n,e1,_⟩:=pl
  exact Nat.ne_of_lt (Heap.lt_size e1)
 refine call_sum_walkAnyS (wpAny_pyIter_list pl.isList ?_)
 refine ⟨s.heap.objs.size,[s.heap.objs.size,p],[s.heap.objs.size],_,_,_,_,fun i=>ns.getD i 0,rfl,(Walks.list (A:=X.A.in1) (I.ok.hd hc) _ p hlt its.toArray).toS,⟨⟨_,Heap.get?_push_size _ rfl,rfl,rfl⟩,pl.isList.push _⟩,fun b hb=>?_,fun i v hP=>?_,fun s' t' mv=>?_⟩
 ·rw [Heap.size_push]
  rcases List.mem_cons.mp hb with z | z
  ·rw [z]; exact Nat.lt_succ_self _
  ·rw [List.mem_singleton.mp z]
   obtain ⟨o,n,e1,_⟩:=pl
   exact Nat.lt_succ_of_lt (Heap.lt_size e1)
 ·have hP':its[i]?=some v:=by simpa using hP
  have hi:=(List.getElem?_eq_some_iff.mp hP').1
  obtain ⟨w',hw,rw'⟩:=rv.get (i:=i) (x:=V.int (ns.getD i 0)) (by rw [List.getElem?_map,List.getD_eq_getElem?_getD,List.getElem?_eq_getElem (by omega)]; rfl)
  rw [hP'] at hw; cases hw
  exact rw'
 ·have e:preSum (fun i=>ns.getD i 0) its.toArray.size=sumI ns:=by
   rw [List.size_toArray,<- hl,ziF ns _ (Nat.le_refl _),List.take_length]
  rw [e]
  obtain ⟨hx,gx,dx,tx,ox⟩:=s'
  have eg:gx=s.gens:=mv.gens
  have ed:dx=s.drawn:=mv.drawn
  have eo:ox=s.os:=mv.os
  subst eg ed eo
  refine ⟨.int (sumI ns),H,I.kept (h':=hx) (t':=tx) fun b o e=>mv.heap b o (fun z=>?_) (Heap.get?_push_of_some _ e),⟨t',rfl⟩,q⟩
  rw [List.mem_singleton] at z
  exact absurd (Heap.lt_size e) (by rw [z]; exact Nat.lt_irrefl _)
theorem znR:bootBuiltins "sum"=some (.builtin "sum"):=by decide +kernel
noncomputable def dSum:List D->Option D
 | [.list l]=>(intsD l).map fun ns=>.int (sumI ns)
 | _=>none
set_option tactic.hygienic true in
theorem zmM {K:PySem.W.Frag}:ImpC K (fun xs H Q=>∃ (p:Addr) (ns:List Int),xs=[.ref p] /\ SqL K H p (ns.map V.int) /\ Q (.int (sumI ns)) H) dSum:=by
 intro A H vs ds d Q al h e q
 unfold dSum at e
 split at e
 ·rename_i l
  cases hl:intsD l with
  | none=>rw [hl] at e; cases e
  | some ns=>
    rw [hl] at e; cases e
    have:=zbU hl
    subst this
    cases h with
    | cons h1 h2=>
      cases h2
      obtain ⟨p,ys,rfl,hp,hy⟩:=h1.list
      have:=HDs.toInts hy
      subst this
      exact ⟨p,ns,rfl,hp.sq,q _ H (Same.refl H) (.int _)⟩
 ·cases e
noncomputable def intsE:List Expr->Option (List Int)
 | []=>some []
 | .Constant (.int n) _ _ :: es=>(intsE es).map (n :: ·)
 | _=>none
noncomputable def gInts (ns:List Int):DS->Option (List D):=fun _=>some (ns.map .int)
set_option tactic.hygienic true in
theorem zg9 {X:Cx} {O:List Nat}:∀ {es:List Expr} {ns:List Int},intsE es=some ns->PA X es (tAs X.K O (gInts ns))
 | [],ns,h=>by
   cases h
   exact zg
 | e :: es,ns,h=>by
   unfold intsE at h
   split at h
   ·cases ‹_ :: _=[]›
   ·rename_i n k p es' he
    cases he
    cases q:intsE es with
    | none=>rw [q] at h; cases h
    | some ms=>
      rw [q] at h
      cases h
      exact za (ze zf) (zg9 q) rfl
   ·cases h
theorem zh8 {es rest:List Expr} {p:Pos} {env:Env}:starEach (.List es p :: rest) env=(false,eval (.List es p) env) :: starEach rest env:=rfl
theorem zfh {x:Str} {rest:List Expr} {p:Pos} {env:Env}:starEach (.Name x p :: rest) env=(false,eval (.Name x p) env) :: starEach rest env:=rfl
theorem zf4 {es:List Expr} {p pos:Pos} {env:Env}:(backTo pos (starEach [.List es p] env)).any (·.1)=false:=rfl
theorem zhY {X:Cx} {O:List Nat} {x y:Str} {ps:List Str} {k kk:Nat} {G:List D->Option (List D)} {g1:DS->Option D} {es:List Expr} {ns:List Int} {p p1 lp pos:Pos} (F:Dn X.prog X.w X.K X.mg X.base k x ps (spN X.K 2 G)) (hr:Room kk X.A) (hk:k<=kk) (hv:PE X (.Name y p1) (tE X.K O g1)) (hi:intsE es=some ns) (hg:Gl X x:=by rfl)
  (hdb:(x == ("__debug__":Str))=false:=by decide):PE X (.Call (.Name x p) [.Name y p1,.List es lp] [] pos) (tN X.K O (gCallN G 2 (gConsA g1 (gConsA (gLst (gLstN (gInts ns))) gNilA)))):=
 zaI F hr hk (za hv (za (PE.nE (zaD (zg9 hi))) zg zh8) zfh) hg hdb zfh zf4
end L2
namespace Q1
noncomputable def dv (t b:Int):Int:=if b < 0 then -(Int.gcd t b:Int) else (Int.gcd t b:Int)
theorem zov {t b:Int} (hb:b≠0):dv t b≠0:=by
 have hp:0 < Int.gcd t b:=Int.gcd_pos_of_ne_zero_right _ hb
 unfold dv; split <;> omega
end Q1
namespace Q1
noncomputable def qmk (t b:Int):Int×Int:=(t.fdiv (dv t b),b.fdiv (dv t b))
noncomputable abbrev Qz:Int×Int:=(0,1)
noncomputable def at0 (l:List (Int×Int)) (k:Nat):Int×Int:=l.getD k Qz
end Q1
namespace Q1
end Q1
namespace Q1
noncomputable def tab (n:Nat) (T:Nat->Int):List Int:=(List.range n).map T
end Q1
namespace Q1
end Q1
namespace K06
noncomputable def ch:Nat->Nat->Nat
 | _,0=>1
 | 0,_ + 1=>0
 | n + 1,k + 1=>ch n k + ch n (k + 1)
noncomputable def sg (k:Nat):Int:=1 - 2 * ((k:Int) % 2)
noncomputable def tp (n k:Nat):Int:=(ch n k:Int) * sg k
noncomputable def row (n:Nat):List Int:=(List.range (n + 1)).map fun j=>(ch n j:Int)
noncomputable def part (n j:Nat):List Int:=(List.range (j + 1)).map fun i=>(ch (n + 1) i:Int)
end K06
namespace MyLaw
open PySem L2 Q1
noncomputable abbrev bt (x:Int):Nat:=Builtin.Int.intBits x
theorem zal {m:Nat} {x:Int} (h:x.natAbs < 2 ^ m):bt x<=m:=intBits_le_iff.mpr h
theorem zlm {m n:Nat} {x y:Int} (h1:bt x<=m) (h2:bt y<=n):bt (x * y)<=m + n:=intBits_mul_le h1 h2
theorem znp {m:Nat} {x:Int} (h:bt x<=m):bt (-x)<=m:=intBits_neg_le h
theorem zkc {m:Nat} {x y:Int} (h:x.natAbs<=y.natAbs) (hy:bt y<=m):bt x<=m:=intBits_le_of_natAbs h hy
theorem zbF {m n:Nat} {x:Int} (h:bt x<=m) (h2:m<=n):bt x<=n:=Nat.le_trans h h2
theorem zg2 {m:Nat} {x:Int} (h:bt x<=m) (k:Nat):bt (x ^ k)<=m * k + 1:=by
 have:=intBits_pow_le h k
 omega
theorem mulOk {m n:Nat} {x y:Int} (h1:bt x<=m) (h2:bt y<=n) (h:m + n<=134217728:=by omega):IntMulOk x y:=IntMulOk.of_le h1 h2 h
theorem zfW (i:Int):(if i < 0 then -i else i)=(i.natAbs:Nat):=by split <;> omega
theorem zbm {a b:Int} (h:IntMulOk a b):dMulI (.int a) (.int b)=some (.int (a * b)):=ze3 h
theorem zcd {a b:Int} (h:0 < b):dMod (.int a) (.int b)=some (.int (a % b)):=by
 rw [<- Int.fmod_eq_emod_of_nonneg _ (Int.le_of_lt h)]
 exact ze3 (C:=fun _ j=>j≠0) (by omega)
theorem zjB {a b:Int} (h:0 < b) (hb:bt b<=9000):dDiv (.int a) (.int b)=some (.int (a / b)):=by
 rw [<- Int.fdiv_eq_ediv_of_nonneg _ (Int.le_of_lt h)]
 exact ze3 (C:=CDivS) ⟨by omega,zfe hb⟩
theorem zkU {a b:Int} (h:b≠0) (hb:bt b<=9000):dDiv (.int a) (.int b)=some (.int (a.fdiv b)):=ze3 (C:=CDivS) ⟨h,zfe hb⟩
theorem zmU {a:Int} {k:Nat} (h:a.natAbs < 2 ^ 64) (hk:k<=1000000):dPow (.int a) (.int k)=some (.int (a ^ k)):=by
 have:=ze3 (C:=CPow) (g:=fun i j=>.int (i ^ j.toNat)) (a:=a) (b:=k) ⟨by omega,by omega,h⟩
 simpa using this
theorem atI0 {α:Type} {x:α} {xs:List α}:atI (x :: xs) 0=some x:=zba (j:=0) rfl
theorem atI1 {α:Type} {x y:α} {xs:List α}:atI (x :: y :: xs) 1=some y:=zba (j:=1) rfl
noncomputable def Gets {β:Type} (x:Option β) (P:β->Prop):Prop:=∃ d,x=some d /\ P d
theorem zU {β:Type} {x:Option β} {d:β} (h:Gets x fun y=>y=d):x=some d:=by
 obtain ⟨y,e,rfl⟩:=h; exact e
theorem Gets.mk {β:Type} {x:Option β} {P:β->Prop} {d:β} (e:x=some d) (h:P d):Gets x P:=⟨d,e,h⟩
theorem zbB {a b:DS->Option Res} {δ δ':DS} (h:a δ=some (.nx δ')):gSeq a b δ=b δ':=by
 unfold gSeq; rw [h]; rfl
theorem zb5 {a b:DS->Option Res} {δ:DS} {d:D} (h:a δ=some (.rt d)):gSeq a b δ=some (.rt d):=by
 unfold gSeq; rw [h]; rfl
theorem zhv {c:DS->Option Bool} {b:DS->Option Res} (W:Nat->DS->Prop) (Z:DS->Prop) (m:Nat) {δ:DS} (h:W m δ)
  (hs:∀ m δ,W m δ->(c δ=some false /\ Z δ) \/ (c δ=some true /\ ∃ δ' m',b δ=some (.nx δ') /\ m' < m /\ W m' δ')):∃ δ',gWhile c b δ=some (.nx δ') /\ Z δ':=by
 obtain ⟨q,h1,δ',rfl,h2⟩:=zfm W (fun _ q=>∃ δ',q=.nx δ' /\ Z δ') m δ h (fun m δ hW=>by
  rcases hs m δ hW with ⟨a,z⟩ | ⟨a,δ',m',e,l,w⟩
  ·exact .inl ⟨a,δ,rfl,z⟩
  ·exact .inr ⟨a,.inl ⟨δ',m',.inl e,l,w,fun q hq=>hq⟩⟩)
 exact ⟨δ',h1,h2⟩
theorem zgR {t:D->DS->Option DS} {b:DS->Option Res} (W:Nat->DS->Prop):∀ (ds:List D) (k:Nat) {δ:DS},W k δ->(∀ i d δ,ds[i]?=some d->W (k + i) δ->∃ δ1 δ',t d δ=some δ1 /\ b δ1=some (.nx δ') /\ W (k + i + 1) δ')->
  ∃ δ',forD t b ds δ=some (.nx δ') /\ W (k + ds.length) δ'
 | [],k,δ,h,_=>⟨δ,rfl,h⟩
 | d :: ds,k,δ,h,hs=>by
   obtain ⟨δ1,δ',e1,e2,h'⟩:=hs 0 d δ rfl h
   obtain ⟨δ2,e3,h2⟩:=zgR W ds (k + 1) h' (fun i d δ e w=>by
    have:=hs (i + 1) d δ (by simpa using e) (by rw [show k + (i + 1)=k + 1 + i by omega]; exact w)
    rw [show k + (i + 1) + 1=k + 1 + i + 1 by omega] at this
    exact this)
   refine ⟨δ2,?_,by rw [List.length_cons,show k + (ds.length + 1)=k + 1 + ds.length by omega]; exact h2⟩
   rw [forD,e1,Option.bind_some,e2,Option.bind_some]
   exact e3
theorem zf8 {α:Type} {t:D->DS->Option DS} {b:DS->Option Res} (enc:α->D) (W:Nat->DS->Prop) (xs:List α) {δ:DS} (h:W 0 δ)
  (hs:∀ i x δ,xs[i]?=some x->W i δ->∃ δ1 δ',t (enc x) δ=some δ1 /\ b δ1=some (.nx δ') /\ W (i + 1) δ'):∃ δ',forD t b (xs.map enc) δ=some (.nx δ') /\ W xs.length δ':=by
 obtain ⟨δ',e,w⟩:=zgR (t:=t) (b:=b) W (xs.map enc) 0 h (fun i d δ e w=>by
  rw [List.getElem?_map] at e
  cases ex:xs[i]? with
  | none=>rw [ex] at e; cases e
  | some x=>
    rw [ex] at e; cases e
    rw [Nat.zero_add] at w ⊢
    exact hs i x δ ex w)
 rw [Nat.zero_add,List.length_map] at w
 exact ⟨δ',e,w⟩
theorem zj2 {t:D->DS->Option DS} {b:DS->Option Res} {lo:Int} {n:Nat} (W:Nat->DS->Prop) {δ:DS} (h:W 0 δ)
  (hs:∀ i δ,i < n->W i δ->∃ δ1 δ',t (.int (lo + i)) δ=some δ1 /\ b δ1=some (.nx δ') /\ W (i + 1) δ'):∃ δ',forD t b (rangeD lo n) δ=some (.nx δ') /\ W n δ':=by
 obtain ⟨δ',e,w⟩:=zf8 (t:=t) (b:=b) (fun k:Nat=>PyData.int (lo + k)) W (List.range n) h (fun i x δ e w=>by
  have hi:=(List.getElem?_eq_some_iff.mp e).1
  rw [List.length_range] at hi
  rw [List.getElem?_range hi] at e
  cases e
  exact hs i δ hi w)
 rw [List.length_range] at w
 exact ⟨δ',e,w⟩
theorem zfg {c:DS->Option Bool} {b rest:DS->Option Res} {β:Type} {f:Res->Option β} {R:β->Prop} {δ:DS} (W:Nat->DS->Prop) (Z:DS->Prop) (m:Nat) (h:W m δ)
  (hs:∀ m δ,W m δ->(c δ=some false /\ Z δ) \/ (c δ=some true /\ ∃ δ' m',b δ=some (.nx δ') /\ m' < m /\ W m' δ')) (k:∀ δ',Z δ'->Gets ((rest δ').bind f) R):Gets ((gSeq (gWhile c b) rest δ).bind f) R:=by
 obtain ⟨δ',h1,h2⟩:=zhv W Z m h hs
 rw [zbB h1]
 exact k δ' h2
theorem zdD {α:Type} {t:D->DS->Option DS} {gi:DS->Option (List D)} {b rest:DS->Option Res} {β:Type} {f:Res->Option β} {R:β->Prop} {δ:DS} (enc:α->D) (xs:List α) (W:Nat->DS->Prop) (hi:gi δ=some (xs.map enc)) (h:W 0 δ)
  (hs:∀ i x δ,xs[i]?=some x->W i δ->∃ δ1 δ',t (enc x) δ=some δ1 /\ b δ1=some (.nx δ') /\ W (i + 1) δ') (k:∀ δ',W xs.length δ'->Gets ((rest δ').bind f) R):Gets ((gSeq (gFor gi t b) rest δ).bind f) R:=by
 obtain ⟨δ',h1,h2⟩:=zf8 (t:=t) (b:=b) enc W xs h hs
 rw [zbB (δ':=δ') (by unfold gFor; rw [hi]; exact h1)]
 exact k δ' h2
theorem zg3 {t:D->DS->Option DS} {gi:DS->Option (List D)} {b rest:DS->Option Res} {β:Type} {f:Res->Option β} {R:β->Prop} {δ:DS} (lo:Int) (n:Nat) (W:Nat->DS->Prop) (hi:gi δ=some (rangeD lo n)) (h:W 0 δ)
  (hs:∀ i δ,i < n->W i δ->∃ δ1 δ',t (.int (lo + i)) δ=some δ1 /\ b δ1=some (.nx δ') /\ W (i + 1) δ') (k:∀ δ',W n δ'->Gets ((rest δ').bind f) R):Gets ((gSeq (gFor gi t b) rest δ).bind f) R:=by
 obtain ⟨δ',h1,h2⟩:=zj2 (t:=t) (b:=b) W h hs
 rw [zbB (δ':=δ') (by unfold gFor; rw [hi]; exact h1)]
 exact k δ' h2
theorem zQ {a rest:DS->Option Res} {β:Type} {f:Res->Option β} {R:β->Prop} {δ:DS} (δ':DS) (h:a δ=some (.nx δ')) (k:Gets ((rest δ').bind f) R):Gets ((gSeq a rest δ).bind f) R:=by
 rw [zbB h]; exact k
theorem ziw {c:DS->Option Bool} {a rest:DS->Option Res} {β:Type} {f:Res->Option β} {R:β->Prop} {δ:DS} (h:c δ=some false) (k:Gets ((rest δ).bind f) R):Gets ((gSeq (gIf c a gSkip) rest δ).bind f) R:=by
 rw [zbB (δ':=δ) (by unfold gIf; rw [h]; rfl)]; exact k
theorem zeo {c:DS->Option Bool} {a b rest:DS->Option Res} {β:Type} {f:Res->Option β} {R:β->Prop} {δ:DS} (x:Bool) (h:c δ=some x) (k1:x=true->Gets ((gSeq a rest δ).bind f) R) (k2:x=false->Gets ((gSeq b rest δ).bind f) R):Gets ((gSeq (gIf c a b) rest δ).bind f) R:=by
 have e:gIf c a b δ=if x=true then a δ else b δ:=by unfold gIf; rw [h]; rfl
 cases x with
 | true=>rw [if_pos rfl] at e; have:=k1 rfl; unfold gSeq at this ⊢; rw [e]; exact this
 | false=>rw [if_neg Bool.false_ne_true] at e; have:=k2 rfl; unfold gSeq at this ⊢; rw [e]; exact this
theorem zeS {g:DS->Option D} {rest:DS->Option Res} {β:Type} {f:Res->Option β} {R:β->Prop} {δ:DS} (d:D) (h:g δ=some d) (k:Gets (f (.rt d)) R):Gets ((gSeq (gRet g) rest δ).bind f) R:=by
 rw [zb5 (d:=d) (by unfold gRet; rw [h]; rfl)]; exact k
theorem ret {g:DS->Option D} {β:Type} {f:Res->Option β} {R:β->Prop} {δ:DS} (d:D) (h:g δ=some d) (k:Gets (f (.rt d)) R):Gets ((gRet g δ).bind f) R:=by
 unfold gRet; rw [h]; exact k
theorem zY {a b:DS->Option Res} {δ:DS} {r:Option Res} (δ':DS) (h:a δ=some (.nx δ')) (k:b δ'=r):gSeq a b δ=r:=(zbB h).trans k
theorem zcV {c:DS->Option Bool} {a:DS->Option Res} {δ:DS} (h:c δ=some false):gIf c a gSkip δ=some (.nx δ):=by unfold gIf; rw [h]; rfl
theorem zgU {rest:DS->Option Res} {δ:DS}:gSeq gSkip rest δ=rest δ:=rfl
theorem ziK {a b c:DS->Option Res} {δ:DS}:gSeq (gSeq a b) c δ=gSeq a (gSeq b c) δ:=by
 unfold gSeq
 cases a δ with
 | none=>rfl
 | some r=>cases r <;> rfl
theorem zjl {α β:Type} {f:D->Option D} (enc:α->D) (enc':β->D) (h:α->β):∀ (l:List α),(∀ a∈l,f (enc a)=some (enc' (h a)))->mapD f (l.map enc)=some ((l.map h).map enc')
 | [],_=>rfl
 | a :: l,hf=>by
   rw [List.map_cons,mapD,hf a List.mem_cons_self,Option.bind_some,zjl enc enc' h l fun b hb=>hf b (List.mem_cons_of_mem _ hb)]
   rfl
theorem zdq {α β:Type} (enc:α->D) (enc':β->D) (h:α->β) {gi:DS->Option (List D)} {ix:List Nat} {ge:DS->Option D} {δ:DS} (l:List α) (hi:gi δ=some (l.map enc)) (hn:l.length<=100000)
  (hf:∀ a∈l,ge (some (enc a) :: captD ix δ)=some (enc' (h a))):gComp gi ix ge δ=some ((l.map h).map enc'):=by
 unfold gComp
 rw [hi,Option.bind_some,if_pos (by rw [List.length_map]; exact hn)]
 exact zjl enc enc' h l hf
theorem zj9 {α:Type} (enc:α->D) (l:List α) (lo hi:Option Int):∃ m:List α,cutD (l.map enc) lo hi=m.map enc /\ m.length<=l.length /\ ∀ a∈m,a∈l:=by
 unfold cutD
 refine ⟨(l.drop _).take _,by rw [List.map_take,List.map_drop,List.length_map],?_,fun a h=>List.mem_of_mem_drop (List.mem_of_mem_take h)⟩
 rw [List.length_take,List.length_drop]; omega
theorem znJ (a b:Int):dEq (.int a) (.int b)=some (.bool (decide (a=b))):=rfl
theorem zkW (a b:Int):dNe (.int a) (.int b)=some (.bool (!decide (a=b))):=rfl
theorem zmX {a b:D} {c:Bool} (h:dEq a b=some (.bool c)):dNe a b=some (.bool (!c)):=by unfold dNe; rw [h]; rfl
theorem zbH {g:DS->Option (List D)} {δ:DS} {n:Nat} (h:g δ=some [.int (n:Nat)]) (hn:n<=100000):gRange1 g δ=some (rangeD 0 n):=by
 unfold gRange1
 rw [h,Option.bind_some]
 show (if -(2 ^ 62)<=((n:Nat):Int) /\ ((n:Nat):Int) < 2 ^ 62 then some (rangeD 0 ((n:Nat):Int).toNat) else none)=_
 rw [Int.toNat_natCast,if_pos ⟨by omega,by omega⟩]
theorem zio {g:DS->Option (List D)} {δ:DS} {a b:Int} (h:g δ=some [.int a,.int b]) (h1: -100000<=a) (h2:a<=100000) (h3: -100000<=b) (h4:b<=100000):gRange2 g δ=some (rangeD a (b - a).toNat):=by
 unfold gRange2
 rw [h,Option.bind_some]
 show (if -(2 ^ 62)<=a /\ a < 2 ^ 62 /\ -(2 ^ 62)<=b /\ b < 2 ^ 62 then some (rangeD a (b - a).toNat) else none)=_
 rw [if_pos ⟨by omega,by omega,by omega,by omega⟩]
theorem zq {G:List D->Option D} {n:Nat} {g:DS->Option (List D)} {δ:DS} {ds:List D} {r:Option D} (h:g δ=some ds) (hn:ds.length=n) (hG:G ds=r):gCall G n g δ=r:=by
 unfold gCall; rw [h,Option.bind_some,if_pos hn]; exact hG
theorem za1 {G:List D->Option (List D)} {n:Nat} {g:DS->Option (List D)} {δ:DS} {ds:List D} {r:Option (List D)} (h:g δ=some ds) (hn:ds.length=n) (hG:G ds=r):gCallN G n g δ=r:=by
 unfold gCallN; rw [h,Option.bind_some,if_pos hn]; exact hG
theorem zZ {g:DS->Option (List D)} {δ:DS} {l:List D} (h:g δ=some l):gLst g δ=some (.list l):=by unfold gLst; rw [h]; rfl
theorem zd {a:DS->Option D} {r:DS->Option (List D)} {δ:DS} {x:D} {xs:List D} (h:a δ=some x) (h2:r δ=some xs):gConsA a r δ=some (x :: xs):=by unfold gConsA; rw [h,h2]; rfl
theorem zR {i:Nat} {g:DS->Option D} {δ:DS} {d:D} (h:g δ=some d):gSet i g δ=some (.nx (δ.set i (some d))):=by unfold gSet; rw [h]; rfl
theorem zlK {i:Nat} {g:DS->Option (List D)} {δ:DS} {d:List D} (h:g δ=some d):gSetN i g δ=some (.nx (δ.set i (some (.list d)))):=by unfold gSetN; rw [h]; rfl
theorem znd (l:List D):dLen [.list l]=some (.int l.length):=rfl
theorem zog (l:List D) (i:Int):dIx (.list l) (.int i)=atI l i:=rfl
theorem zaB (q:Fr2):dIx (dF q) (.int 0)=some (.int q.1):=rfl
theorem zaA (q:Fr2):dIx (dF q) (.int 1)=some (.int q.2):=rfl
theorem zop {a b:DS->Option Bool} {δ:DS} {r:Option Bool} (h1:a δ=some false) (h2:b δ=r):gOr a b δ=r:=by unfold gOr; rw [h1]; exact h2
theorem zk0 {a b:DS->Option Bool} {δ:DS} {r:Option Bool} (h1:a δ=some true) (h2:b δ=r):gAnd a b δ=r:=by unfold gAnd; rw [h1]; exact h2
theorem zdr {a:DS->Option Bool} {δ:DS} {x:Bool} (h:a δ=some x):gNot a δ=some (!x):=by unfold gNot; rw [h]; rfl
theorem zbE {g:DS->Option D} {δ:DS} {b:Bool} (h:g δ=some (.bool b)):gB g δ=some b:=by unfold gB; rw [h]; rfl
theorem zmp {g:DS->Option D} {δ:DS} {b:Bool} (h:g δ=some (.bool b)):gTru g δ=some b:=by unfold gTru; rw [h]; rfl
theorem zj {f:D->D->Option D} {a b:DS->Option D} {δ:DS} {x y:D} {r:Option D} (h1:a δ=some x) (h2:b δ=some y) (h3:f x y=r):g2 f a b δ=r:=by unfold g2; rw [h1,h2]; exact h3
theorem zgF {f f':D->D->Option D} {a b c:DS->Option D} {δ:DS} {x y z:D} {r:Option D} (h1:a δ=some x) (h2:b δ=some y) (h3:f x y=some (.bool true)) (h4:c δ=some z) (h5:f' y z=r):gChain f f' a b c δ=r:=by
 unfold gChain; rw [h1,h2,Option.bind_some,Option.bind_some,h3,Option.bind_some,h4]; exact h5
end MyLaw
namespace MyLaw
open PySem L2 Q1
noncomputable abbrev CSX:List Str:=["NoShares","TooLong"]
noncomputable abbrev TSX:List Str:=["NoNumber","NoPlan","TooLong","NoText","NoEnd","TooMany","NoRow","NoTelling","NoLot","NotOnly","Only","NoShares","NoDeed","NoName","NoDraw"]
noncomputable abbrev zld:DS->Option Res:=(gSeq (gSet 2 (g2 dSub (g1 dBits (gVar 0)) (gC (.int (240)))))
  (gSeq (gSet 3 (gTupD (gConsA (g2 dShr (gVar 0) (gVar 2)) (gConsA (gC (.int (1))) (gConsA (gC (.int (0))) gNilA)))))
  (gSeq (gSet 4 (gTupD (gConsA (g2 dShr (gVar 1) (gVar 2)) (gConsA (gC (.int (0))) (gConsA (gC (.int (1))) gNilA)))))
  (gSeq (gWhile (gB (g2 dNe (g2 dShr (g2 dIx (gVar 4) (gC (.int (0)))) (gC (.int (120)))) (gC (.int (0))))) (gSeq (gSet 5 (g2 dDiv (g2 dIx (gVar 3) (gC (.int (0)))) (g2 dIx (gVar 4) (gC (.int (0))))))
  (gSeq (gSet 6 (gTupD (gConsA (g2 dSub (g2 dIx (gVar 3) (gC (.int (0)))) (g2 dMulI (gVar 5) (g2 dIx (gVar 4) (gC (.int (0)))))) (gConsA (g2 dSub (g2 dIx (gVar 3) (gC (.int (1)))) (g2 dMulI (gVar 5) (g2 dIx (gVar 4) (gC (.int (1)))))) (gConsA (g2 dSub (g2 dIx (gVar 3) (gC (.int (2)))) (g2 dMulI (gVar 5) (g2 dIx (gVar 4) (gC (.int (2)))))) gNilA)))))
  (gSeq (gSet 3 (gVar 4))
  (gSet 4 (gVar 6))))))
  (gRet (gTupD (gConsA (gB1 dAbs (gConsA (g2 dAddV (g2 dMulI (g2 dIx (gVar 3) (gC (.int (1)))) (gVar 0)) (g2 dMulI (g2 dIx (gVar 3) (gC (.int (2)))) (gVar 1))) gNilA)) (gConsA (gB1 dAbs (gConsA (g2 dAddV (g2 dMulI (g2 dIx (gVar 4) (gC (.int (1)))) (gVar 0)) (g2 dMulI (g2 dIx (gVar 4) (gC (.int (2)))) (gVar 1))) gNilA)) gNilA))))))))
noncomputable def ziE:List D->Option D:=gDef 7 zld
noncomputable abbrev zaF:DS->Option Res:=(gSeq (gSet 0 (gB1 dAbs (gConsA (gVar 0) gNilA)))
  (gSeq (gSet 1 (gB1 dAbs (gConsA (gVar 1) gNilA)))
  (gSeq (gWhile (gB (g2 dNe (gVar 1) (gC (.int (0))))) (gSeq (gSet 2 (g2 dMod (gVar 0) (gVar 1)))
  (gSeq (gSet 0 (gVar 1))
  (gSeq (gSet 1 (gVar 2))
  (gIf (gB (g2 dGt (g1 dBits (gVar 1)) (gC (.int (4000))))) (gSeq (gSet 3 (gCall ziE 2 (gConsA (gVar 0) (gConsA (gVar 1) gNilA))))
  (gSeq (gSet 0 (g2 dIx (gVar 3) (gC (.int (0)))))
  (gSet 1 (g2 dIx (gVar 3) (gC (.int (1))))))) gSkip)))))
  (gRet (gVar 0)))))
noncomputable def zG:List D->Option D:=gDef 4 zaF
theorem zci (a0 a1:D):zG [a0,a1]=(zaF [some a0,some a1,none,none]).bind gOut:=rfl
noncomputable abbrev zjE:DS->Option Res:=(gSeq (gIf (gB (g2 dEq (gVar 1) (gC (.int (0))))) (fun _=>none) gSkip)
  (gSeq (gSet 2 (gCall zG 2 (gConsA (gVar 0) (gConsA (gVar 1) gNilA))))
  (gSeq (gIf (gB (g2 dLt (gVar 1) (gC (.int (0))))) (gSet 2 (g1 dNeg (gVar 2))) gSkip)
  (gRet (gTupD (gConsA (g2 dDiv (gVar 0) (gVar 2)) (gConsA (g2 dDiv (gVar 1) (gVar 2)) gNilA)))))))
noncomputable def zfl:List D->Option D:=gDef 3 zjE
theorem zny (a0 a1:D):zfl [a0,a1]=(zjE [some a0,some a1,none]).bind gOut:=rfl
noncomputable abbrev zif:DS->Option Res:=(gSeq (gSet 2 (gCall zG 2 (gConsA (g2 dIx (gVar 0) (gC (.int (1)))) (gConsA (g2 dIx (gVar 1) (gC (.int (1)))) gNilA))))
  (gSeq (gSet 3 (g2 dDiv (g2 dIx (gVar 0) (gC (.int (1)))) (gVar 2)))
  (gSeq (gSet 4 (g2 dDiv (g2 dIx (gVar 1) (gC (.int (1)))) (gVar 2)))
  (gSeq (gSet 5 (gCall zfl 2 (gConsA (g2 dAddV (g2 dMulI (g2 dIx (gVar 0) (gC (.int (0)))) (gVar 4)) (g2 dMulI (g2 dIx (gVar 1) (gC (.int (0)))) (gVar 3))) (gConsA (gVar 2) gNilA))))
  (gRet (gTupD (gConsA (g2 dIx (gVar 5) (gC (.int (0)))) (gConsA (g2 dMulI (g2 dMulI (gVar 3) (gVar 4)) (g2 dIx (gVar 5) (gC (.int (1))))) gNilA))))))))
noncomputable def zfy:List D->Option D:=gDef 6 zif
theorem znz (a0 a1:D):zfy [a0,a1]=(zif [some a0,some a1,none,none,none,none]).bind gOut:=rfl
noncomputable abbrev zgc:DS->Option Res:=(gRet (gCall zfy 2 (gConsA (gVar 0) (gConsA (gTupD (gConsA (g1 dNeg (g2 dIx (gVar 1) (gC (.int (0))))) (gConsA (g2 dIx (gVar 1) (gC (.int (1)))) gNilA))) gNilA))))
noncomputable def zdk:List D->Option D:=gDef 2 zgc
theorem zmJ (a0 a1:D):zdk [a0,a1]=(zgc [some a0,some a1]).bind gOut:=rfl
noncomputable abbrev zfZ:DS->Option Res:=(gSeq (gSet 2 (gC (.int (1))))
  (gSeq (gSet 3 (gC (.int (1))))
  (gSeq (gFor (gRange1 (gConsA (gVar 1) gNilA)) (gName' 4)
   (gSeq (gSet 2 (g2 dMulI (gVar 2) (g2 dIx (gVar 0) (gC (.int (0))))))
  (gSet 3 (g2 dMulI (gVar 3) (g2 dIx (gVar 0) (gC (.int (1))))))))
  (gRet (gTupD (gConsA (gVar 2) (gConsA (gVar 3) gNilA)))))))
noncomputable def zbv:List D->Option D:=gDef 5 zfZ
theorem zmA (a0 a1:D):zbv [a0,a1]=(zfZ [some a0,some a1,none,none,none]).bind gOut:=rfl
noncomputable abbrev zgA:DS->Option Res:=(gRet (g2 dLt (g2 dMulI (g2 dIx (gVar 0) (gC (.int (0)))) (g2 dIx (gVar 1) (gC (.int (1))))) (g2 dMulI (g2 dIx (gVar 1) (gC (.int (0)))) (g2 dIx (gVar 0) (gC (.int (1)))))))
noncomputable def zD:List D->Option D:=gDef 2 zgA
theorem zmP (a0 a1:D):zD [a0,a1]=(zgA [some a0,some a1]).bind gOut:=rfl
noncomputable abbrev zdE:DS->Option Res:=(gSeq (gSet 2 (g2 dAddV (g2 dIx (gVar 1) (gC (.int (0)))) (g2 dIx (gVar 1) (gC (.int (1))))))
  (gRet (gAndV (gChain dLe dLt (gC (.int (0))) (gVar 2) (gB1 dLen (gConsA (gVar 0) gNilA))) (g2 dIn (g2 dIx (gVar 1) (gC (.int (0)))) (g2 dIx (gVar 0) (gVar 2))))))
noncomputable def zbo:List D->Option D:=gDef 3 zdE
theorem zi3 (a0 a1:D):zbo [a0,a1]=(zdE [some a0,some a1,none]).bind gOut:=rfl
noncomputable abbrev zep:DS->Option Res:=(gRet (gLst (gSS (gLst (g2N dCat (gLst (gB1N dListN (gConsA (gVar 0) gNilA))) (gLst (gComp (gItems (gVar 0)) [] (g2 dAddV (gVar 0) (gC (.int (1)))))))))))
noncomputable def zaT:List D->Option (List D):=gDefN 1 zep
theorem zgZ (a0:D):zaT [a0]=(zep [some a0]).bind gOutN:=rfl
noncomputable abbrev zdp:DS->Option Res:=(gSeq (gSetN 1 (gLstN (gConsA (gTupD (gConsA (gC (.int (0))) (gConsA (gC (.int (0))) gNilA))) gNilA)))
  (gSeq (gFor (gEnumS (gVar 0)) (gTupT 2 (gConsT (gName' 2) (gConsT (gName' 3) gNilT)))
   (gExt 1 (gComp (gItems (gLst (gCallN zaT 1 (gConsA (gVar 3) gNilA)))) [2] (gTupD (gConsA (gVar 0) (gConsA (g2 dSub (gVar 1) (gVar 0)) gNilA))))))
  (gRet (gVar 1))))
noncomputable def zbb:List D->Option (List D):=gDefN 4 zdp
theorem zhI (a0:D):zbb [a0]=(zdp [some a0,none,none,none]).bind gOutN:=rfl
noncomputable abbrev zi6:DS->Option Res:=(gRet (gLst (gCompL (gItems (gLst (gCallN zbb 1 (gConsA (gVar 0) gNilA)))) 1 [0] (gName' 0) (gNot (gTru (gCall zbo 2 (gConsA (gVar 1) (gConsA (gVar 0) gNilA))))) (gVar 0))))
noncomputable def zdo:List D->Option (List D):=gDefN 1 zi6
theorem znG (a0:D):zdo [a0]=(zi6 [some a0]).bind gOutN:=rfl
noncomputable abbrev zcI:DS->Option Res:=(gSeq (gSetN 1 (gLstN gNilA))
  (gSeq (gFor (gEnumT (gVar 0)) (gTupT 2 (gConsT (gName' 2) (gConsT (gName' 3) gNilT)))
   (gExt 1 (gComp (gItems (gVar 3)) [2] (gTupD (gConsA (gVar 0) (gConsA (g2 dSub (gVar 1) (gVar 0)) gNilA))))))
  (gRet (gVar 1))))
noncomputable def za4:List D->Option (List D):=gDefN 4 zcI
theorem zhw (a0:D):za4 [a0]=(zcI [some a0,none,none,none]).bind gOutN:=rfl
noncomputable abbrev zbL (f c:Addr) (q:Str) (G:List D->Option D):DS->Option Res:=(gSeq (gSetN 1 (gLstN gNilA))
  (gSeq (gSet 2 (gLst (gLstN (gConsA (gC (.int (0))) gNilA))))
  (gWhile (gTru (gC (.bool true))) (gSeq (gSet 3 (gB1 dLen (gConsA (gVar 1) gNilA)))
  (gSeq (gSet 4 (gLst (gCompL (gItems (gVar 2)) 1 [0,3] (gName' 0) (gTru (gCallV f c q G 2 1 (gConsA (gVar 0) (gConsA (gVar 2) gNilA)))) (gVar 0))))
  (gSeq (gIf (gB (g2 dEq (gB1 dLen (gConsA (gVar 4) gNilA)) (gC (.int (0))))) (gRet (gB1 dTupleOf (gConsA (gVar 1) gNilA))) gSkip)
  (gSeq (gIf (gB (g2 dEq (gVar 3) (gC (.int (24))))) (fun _=>none) gSkip)
  (gSeq (gApp 1 (gB1 dTupleOf (gConsA (gVar 4) gNilA)))
  (gSet 2 (gLst (gCallN zaT 1 (gConsA (gVar 4) gNilA))))))))))))
noncomputable def zau (f c:Addr) (q:Str) (G:List D->Option D):List D->Option D:=gDef 5 (zbL f c q G)
theorem zfH (f c:Addr) (q:Str) (G:List D->Option D) (a0:D):zau f c q G [a0]=(zbL f c q G [some a0,none,none,none,none]).bind gOut:=rfl
noncomputable abbrev zgq:DS->Option Res:=(gSeq (gIf (gB (g2 dEq (gVar 1) (gC (.str "b")))) (gRet (gTupD (gConsA (g2 dAddV (g2 dIx (gVar 0) (gC (.int (0)))) (gC (.int (1)))) (gConsA (g2 dIx (gVar 0) (gC (.int (1)))) gNilA)))) gSkip)
  (gRet (gTupD (gConsA (g2 dIx (gVar 0) (gC (.int (0)))) (gConsA (g2 dAddV (g2 dIx (gVar 0) (gC (.int (1)))) (gC (.int (1)))) gNilA)))))
noncomputable def zbd:List D->Option D:=gDef 2 zgq
theorem zic (a0 a1:D):zbd [a0,a1]=(zgq [some a0,some a1]).bind gOut:=rfl
noncomputable abbrev zb3:DS->Option Res:=(gSeq (gSetD 2 (gDisp1 (gVar 1) (gC (.int (1)))))
  (gSeq (gFor (gItems (gLst (gCallN za4 1 (gConsA (gVar 0) gNilA)))) (gName' 3)
   (gSeq (gSet 4 (gDgetD (gVar 2) (gVar 3) (gC (.int (0)))))
  (gFor (gItems (gTupD (gConsA (gCall zbd 2 (gConsA (gVar 3) (gConsA (gC (.str "b")) gNilA))) (gConsA (gCall zbd 2 (gConsA (gVar 3) (gConsA (gC (.str "g")) gNilA))) gNilA)))) (gName' 5)
   (gSetK 2 (gVar 5) (g2 dAddV (gDgetD (gVar 2) (gVar 5) (gC (.int (0)))) (gVar 4))))))
  (gRet (gVar 2))))
noncomputable def zaP:List D->Option D:=gDef 6 zb3
theorem zgd (a0 a1:D):zaP [a0,a1]=(zb3 [some a0,some a1,none,none,none,none]).bind gOut:=rfl
noncomputable abbrev zak:DS->Option Res:=(gIf (gNot (gAnd (gTru (gCall zD 2 (gConsA (gC (.tuple [(.int (0)),(.int (1))])) (gConsA (gVar 0) gNilA)))) (gAnd (gTru (gCall zD 2 (gConsA (gVar 0) (gConsA (gVar 1) gNilA)))) (gTru (gCall zD 2 (gConsA (gVar 1) (gConsA (gC (.tuple [(.int (1)),(.int (1))])) gNilA))))))) (gRaise "NoShares") gSkip)
noncomputable def zaj:List D->Option D:=gDef 2 zak
theorem zc9 (a0 a1:D):zaj [a0,a1]=(zak [some a0,some a1]).bind gOut:=rfl
noncomputable abbrev zaS:DS->Option Res:=(gIf (gNot (gAnd (gTru (gCall zD 2 (gConsA (gC (.tuple [(.int (0)),(.int (1))])) (gConsA (gVar 0) gNilA)))) (gAnd (gTru (gCall zD 2 (gConsA (gVar 0) (gConsA (gVar 1) gNilA)))) (gTru (gCall zD 2 (gConsA (gVar 1) (gConsA (gC (.tuple [(.int (1)),(.int (1))])) gNilA))))))) (fun _=>none) gSkip)
noncomputable def zai:List D->Option D:=gDef 2 zaS
theorem zdM (a0 a1:D):zai [a0,a1]=(zaS [some a0,some a1]).bind gOut:=rfl
noncomputable abbrev zaX:DS->Option Res:=(gIf (gOr (gTru (gCall zD 2 (gConsA (gVar 0) (gConsA (gC (.tuple [(.int (0)),(.int (1))])) gNilA)))) (gTru (gCall zD 2 (gConsA (gC (.tuple [(.int (1)),(.int (1))])) (gConsA (gVar 0) gNilA))))) (gRaise "NoShares") gSkip)
noncomputable def zay:List D->Option D:=gDef 1 zaX
theorem zeg (a0:D):zay [a0]=(zaX [some a0]).bind gOut:=rfl
noncomputable abbrev zbh:DS->Option Res:=(gIf (gOr (gTru (gCall zD 2 (gConsA (gVar 0) (gConsA (gC (.tuple [(.int (0)),(.int (1))])) gNilA)))) (gTru (gCall zD 2 (gConsA (gC (.tuple [(.int (1)),(.int (1))])) (gConsA (gVar 0) gNilA))))) (fun _=>none) gSkip)
noncomputable def zav:List D->Option D:=gDef 1 zbh
theorem zfx (a0:D):zav [a0]=(zbh [some a0]).bind gOut:=rfl
noncomputable abbrev zgt:DS->Option Res:=(gSeq (gSet 2 (gCall zbv 2 (gConsA (gVar 1) (gConsA (g2 dIx (gVar 0) (gC (.int (0)))) gNilA))))
  (gSeq (gSet 3 (gCall zbv 2 (gConsA (gCall zdk 2 (gConsA (gC (.tuple [(.int (1)),(.int (1))])) (gConsA (gVar 1) gNilA))) (gConsA (g2 dIx (gVar 0) (gC (.int (1)))) gNilA))))
  (gRet (gTupD (gConsA (g2 dMulI (g2 dIx (gVar 2) (gC (.int (0)))) (g2 dIx (gVar 3) (gC (.int (0))))) (gConsA (g2 dMulI (g2 dIx (gVar 2) (gC (.int (1)))) (g2 dIx (gVar 3) (gC (.int (1))))) gNilA))))))
noncomputable def zcL:List D->Option D:=gDef 4 zgt
theorem zlY (a0 a1:D):zcL [a0,a1]=(zgt [some a0,some a1,none,none]).bind gOut:=rfl
noncomputable abbrev zf7:DS->Option Res:=(gIf (gNot (gTru (gVar 0))) (fun _=>none) gSkip)
noncomputable def zdC:List D->Option D:=gDef 1 zf7
theorem zmC (a0:D):zdC [a0]=(zf7 [some a0]).bind gOut:=rfl
noncomputable abbrev zdb:DS->Option Res:=(gSeq (gDrop (gCall zdC 1 (gConsA (gChain dLe dLe (gC (.int (1))) (gVar 0) (gC (.int (24)))) gNilA)))
  (gRet (gPW zau "so_many.<locals>.<lambda>" [0] (g2 dLt (gVar 1) (gVar 2)))))
noncomputable def zbQ:List D->Option D:=gDef 1 zdb
theorem ziH (a0:D):zbQ [a0]=(zdb [some a0]).bind gOut:=rfl
noncomputable abbrev zgz:DS->Option Res:=(gRet (g1 dNot (gCall zD 2 (gConsA (gVar 3) (gConsA (gTupD (gConsA (gB1 dSum (gConsA (gVar 0) gNilA)) (gConsA (g2 dIx (gCall zbv 2 (gConsA (gVar 2) (gConsA (gVar 1) gNilA))) (gC (.int (1)))) gNilA))) gNilA)))))
noncomputable def zaQ:List D->Option D:=gDef 4 zgz
theorem zl0 (a0 a1 a2 a3:D):zaQ [a0,a1,a2,a3]=(zgz [some a0,some a1,some a2,some a3]).bind gOut:=rfl
noncomputable abbrev zbz:DS->Option Res:=(gSeq (gSet 2 (gCall zbQ 1 (gConsA (gVar 0) gNilA)))
  (gSeq (gSet 3 (gCall zaP 2 (gConsA (gVar 2) (gConsA (gTupD (gConsA (gC (.int (0))) (gConsA (gC (.int (0))) gNilA))) gNilA))))
  (gRet (gLst (gComp (gItems (gLst (gCallN zdo 1 (gConsA (gVar 2) gNilA)))) [3,1] (g2 dMulI (gDget (gVar 1) (gVar 0)) (g2 dIx (gCall zcL 2 (gConsA (gVar 0) (gConsA (gVar 2) gNilA))) (gC (.int (0))))))))))
noncomputable def zF:List D->Option (List D):=gDefN 4 zbz
theorem zek (a0 a1:D):zF [a0,a1]=(zbz [some a0,some a1,none,none]).bind gOutN:=rfl
noncomputable abbrev zL:DS->Option Res:=(gSeq (gDropR (gCall zaj 2 (gConsA (gVar 0) (gConsA (gVar 2) gNilA))))
  (gSeq (gDropR (gCall zay 1 (gConsA (gVar 1) gNilA)))
  (gSeq (gDropR (gCall zay 1 (gConsA (gVar 3) gNilA)))
  (gSeq (gIf (gNot (gB (gChain dLe dLe (gC (.int (1))) (gVar 4) (gC (.int (24)))))) (gRaise "TooLong") gSkip)
  (gSeq (gFor (gRange2 (gConsA (gC (.int (1))) (gConsA (g2 dAddV (gVar 4) (gC (.int (1)))) gNilA))) (gName' 5)
   (gSeq (gSet 6 (gLst (gCallN zF 2 (gConsA (gVar 5) (gConsA (gVar 0) gNilA)))))
  (gSeq (gSet 7 (gLst (gCallN zF 2 (gConsA (gVar 5) (gConsA (gVar 2) gNilA)))))
  (gFor (gRange1 (gConsA (g2 dAddV (gVar 5) (gC (.int (1)))) gNilA)) (gName' 8)
   (gSeq (gSet 9 (gCall zaQ 4 (gConsA (gLst (gSlL (gVar 6) (gPart (g2 dAddV (gVar 8) (gC (.int (1))))) gNoPart)) (gConsA (gVar 5) (gConsA (gVar 0) (gConsA (gVar 1) gNilA))))))
  (gIf (gAnd (gTru (gVar 9)) (gTru (gCall zaQ 4 (gConsA (gLst (gSlL (gVar 7) gNoPart (gPart (g2 dAddV (gVar 8) (gC (.int (1))))))) (gConsA (gVar 5) (gConsA (gVar 2) (gConsA (gVar 3) gNilA))))))) (gRet (gTupD (gConsA (gVar 5) (gConsA (gVar 8) gNilA)))) gSkip))))))
  (gRet (gC .none)))))))
noncomputable def zV:List D->Option D:=gDef 10 zL
theorem zew (a0 a1 a2 a3 a4:D):zV [a0,a1,a2,a3,a4]=(zL [some a0,some a1,some a2,some a3,some a4,none,none,none,none,none]).bind gOut:=rfl
noncomputable abbrev zaU:DS->Option Res:=(gSeq (gDrop (gCall zai 2 (gConsA (gVar 0) (gConsA (gVar 2) gNilA))))
  (gSeq (gDrop (gCall zav 1 (gConsA (gVar 1) gNilA)))
  (gSeq (gDrop (gCall zav 1 (gConsA (gVar 3) gNilA)))
  (gSeq (gIf (gNot (gB (gChain dLe dLe (gC (.int (1))) (gVar 4) (gC (.int (24)))))) (fun _=>none) gSkip)
  (gSeq (gFor (gRange2 (gConsA (gC (.int (1))) (gConsA (g2 dAddV (gVar 4) (gC (.int (1)))) gNilA))) (gName' 5)
   (gSeq (gSet 6 (gLst (gCallN zF 2 (gConsA (gVar 5) (gConsA (gVar 0) gNilA)))))
  (gSeq (gSet 7 (gLst (gCallN zF 2 (gConsA (gVar 5) (gConsA (gVar 2) gNilA)))))
  (gFor (gRange1 (gConsA (g2 dAddV (gVar 5) (gC (.int (1)))) gNilA)) (gName' 8)
   (gSeq (gSet 9 (gCall zaQ 4 (gConsA (gLst (gSlL (gVar 6) (gPart (g2 dAddV (gVar 8) (gC (.int (1))))) gNoPart)) (gConsA (gVar 5) (gConsA (gVar 0) (gConsA (gVar 1) gNilA))))))
  (gIf (gAnd (gTru (gVar 9)) (gTru (gCall zaQ 4 (gConsA (gLst (gSlL (gVar 7) gNoPart (gPart (g2 dAddV (gVar 8) (gC (.int (1))))))) (gConsA (gVar 5) (gConsA (gVar 2) (gConsA (gVar 3) gNilA))))))) (gRet (gTupD (gConsA (gVar 5) (gConsA (gVar 8) gNilA)))) gSkip))))))
  (gRet (gC .none)))))))
noncomputable def zbR:List D->Option D:=gDef 10 zaU
theorem zcQ (a0 a1 a2 a3 a4:D):zbR [a0,a1,a2,a3,a4]=(zaU [some a0,some a1,some a2,some a3,some a4,none,none,none,none,none]).bind gOut:=rfl
noncomputable abbrev zcF:DS->Option Res:=(gSeq (gIf (gB (g2 dLt (gVar 1) (gB1 dLen (gConsA (gVar 0) gNilA)))) (gRet (g2 dIx (gVar 0) (gVar 1))) gSkip)
  (gRet (gC (.int (0)))))
noncomputable def zas:List D->Option D:=gDef 2 zcF
theorem zhD (a0 a1:D):zas [a0,a1]=(zcF [some a0,some a1]).bind gOut:=rfl
noncomputable abbrev zb9:DS->Option Res:=(gSeq (gSetN 3 (gLstN gNilA))
  (gSeq (gFor (gRange1 (gConsA (gVar 2) gNilA)) (gName' 4)
   (gSeq (gSet 5 (g2 dMod (g2 dAddV (g2 dAddV (g2 dMulI (g2 dMod (gVar 0) (gC (.int (1000003)))) (gC (.int (48271)))) (g2 dMulI (g2 dMulI (gVar 4) (gVar 4)) (gC (.int (69621))))) (g2 dMulI (gVar 4) (gC (.int (16807))))) (gC (.int (2147483647)))))
  (gApp 3 (g2 dMod (g2 dDiv (g2 dMod (g2 dAddV (g2 dMulI (gVar 5) (gC (.int (39373)))) (gVar 0)) (gC (.int (2147483629)))) (gC (.int (13)))) (gVar 1)))))
  (gRet (gVar 3))))
noncomputable def zbe:List D->Option (List D):=gDefN 6 zb9
theorem zgj (a0 a1 a2:D):zbe [a0,a1,a2]=(zb9 [some a0,some a1,some a2,none,none,none]).bind gOutN:=rfl
noncomputable abbrev zbu:DS->Option Res:=(gSeq (gIf (gB (gChain dLt dLt (g1 dNeg (g2 dPow (gC (.int (10))) (gC (.int (18))))) (gVar 0) (g2 dPow (gC (.int (10))) (gC (.int (18)))))) (gSeq (gSet 2 (gLst (gCallN zbe 3 (gConsA (gVar 0) (gConsA (gC (.int (1000003))) (gConsA (gB1 dLen (gConsA (gVar 1) gNilA)) gNilA))))))
  (gRet (gLst (gComp (gRange1 (gConsA (gB1 dLen (gConsA (gVar 1) gNilA)) gNilA)) [2,1] (g2 dMod (g2 dIx (gVar 1) (gVar 0)) (g2 dIx (gVar 2) (gVar 0))))))) gSkip)
  (gSeq (gSetN 3 (gLstN gNilA))
  (gSeq (gSet 0 (g2 dDiv (gVar 0) (gC (.int (2)))))
  (gSeq (gFor (gItems (gVar 1)) (gName' 4)
   (gSeq (gApp 3 (g2 dMod (gVar 0) (gVar 4)))
  (gSet 0 (g2 dDiv (gVar 0) (gVar 4)))))
  (gRet (gVar 3))))))
noncomputable def z5:List D->Option (List D):=gDefN 5 zbu
theorem zen (a0 a1:D):z5 [a0,a1]=(zbu [some a0,some a1,none,none,none]).bind gOutN:=rfl
noncomputable abbrev zd3 (y:Addr):DS->Option Res:=(gSeq (gSet 1 (gLst (gLstN (gConsA (gIsiX CSX "NoNumber" (gVar 0)) (gConsA (gIsiX CSX "NoPlan" (gVar 0)) (gConsA (gIsiX CSX "TooLong" (gVar 0)) (gConsA (gIsiX CSX "NoText" (gVar 0)) gNilA)))))))
  (gSeq (gSet 1 (gLst (g2N dCat (gVar 1) (gLst (gLstN (gConsA (gIsiX CSX "NoEnd" (gVar 0)) (gConsA (gIsiX CSX "TooMany" (gVar 0)) (gConsA (gIsiX CSX "NoRow" (gVar 0)) (gConsA (gIsiX CSX "NoTelling" (gVar 0)) gNilA)))))))))
  (gSeq (gSet 1 (gLst (g2N dCat (gVar 1) (gLst (gLstN (gConsA (gIsiX CSX "NoLot" (gVar 0)) (gConsA (gIsiX CSX "NotOnly" (gVar 0)) (gConsA (gIsiX CSX "Only" (gVar 0)) (gConsA (gIsiX CSX "NoShares" (gVar 0)) gNilA)))))))))
  (gSeq (gSet 1 (gLst (g2N dCat (gVar 1) (gLst (gLstN (gConsA (gIsiX CSX "NoDeed" (gVar 0)) (gConsA (gIsiX CSX "NoName" (gVar 0)) (gConsA (gIsiX CSX "NoDraw" (gVar 0)) gNilA))))))))
  (gSeq (gSet 2 (gLst (gLstN (gStrs ["NoNumber","NoPlan","TooLong","NoText","NoEnd","TooMany","NoRow","NoTelling","NoLot","NotOnly"]))))
  (gSeq (gSet 2 (gLst (g2N dCat (gVar 2) (gLst (gLstN (gStrs ["Only","NoShares","NoDeed","NoName","NoDraw"]))))))
  (gSeq (gIf (gNot (gTru (gIsiX CSX "ValueError" (gVar 0)))) (gRet (gC (.str "other"))) gSkip)
  (gRet (gJoin (gC (.str "")) (gLst (gCompL (gRange1X y 0 (gConsA (gC (.int (15))) gNilA)) 1 [2,1] (gName' 0) (gTru (g2 dIx (gVar 2) (gVar 0))) (g2 dIx (gVar 1) (gVar 0)))))))))))))
noncomputable def zaO (y:Addr):List D->Option D:=gDef 3 (zd3 y)
theorem zgL (a:Addr) (c:Str) (R:DS->Option Res) (hc:c∈CSX):(gSeq (gSet 1 (gLst (gLstN (gConsA (gIsiX CSX "NoNumber" (gVar 0)) (gConsA (gIsiX CSX "NoPlan" (gVar 0)) (gConsA (gIsiX CSX "TooLong" (gVar 0)) (gConsA (gIsiX CSX "NoText" (gVar 0)) gNilA)))))))
  (gSeq (gSet 1 (gLst (g2N dCat (gVar 1) (gLst (gLstN (gConsA (gIsiX CSX "NoEnd" (gVar 0)) (gConsA (gIsiX CSX "TooMany" (gVar 0)) (gConsA (gIsiX CSX "NoRow" (gVar 0)) (gConsA (gIsiX CSX "NoTelling" (gVar 0)) gNilA)))))))))
  (gSeq (gSet 1 (gLst (g2N dCat (gVar 1) (gLst (gLstN (gConsA (gIsiX CSX "NoLot" (gVar 0)) (gConsA (gIsiX CSX "NotOnly" (gVar 0)) (gConsA (gIsiX CSX "Only" (gVar 0)) (gConsA (gIsiX CSX "NoShares" (gVar 0)) gNilA)))))))))
  (gSeq (gSet 1 (gLst (g2N dCat (gVar 1) (gLst (gLstN (gConsA (gIsiX CSX "NoDeed" (gVar 0)) (gConsA (gIsiX CSX "NoName" (gVar 0)) (gConsA (gIsiX CSX "NoDraw" (gVar 0)) gNilA))))))))
  (gSeq (gSet 2 (gLst (gLstN (gStrs ["NoNumber","NoPlan","TooLong","NoText","NoEnd","TooMany","NoRow","NoTelling","NoLot","NotOnly"]))))
  (gSeq (gSet 2 (gLst (g2N dCat (gVar 2) (gLst (gLstN (gStrs ["Only","NoShares","NoDeed","NoName","NoDraw"]))))))
  (gSeq (gIf (gNot (gTru (gIsiX CSX "ValueError" (gVar 0)))) (gRet (gC (.str "other"))) gSkip) R))))))) [some (exD a c),none,none]=R [some (exD a c),some (.list (TSX.map fun T=>.bool (isX c T))),some (.list (TSX.map .str))]:=by
 rcases List.mem_cons.mp hc with rfl | hc
 ·kernel_rfl
 rcases List.mem_cons.mp hc with rfl | hc
 ·kernel_rfl
 cases hc
theorem zeU (a:Addr):zaO a [exD a "NoShares"]=some (.str "NoShares"):=by
 refine Eq.trans (congrArg (fun r=>Option.bind r gOut) ((zgL a "NoShares" _ (by simp)).trans (zdy (zg7 (zcp rfl))))) ?_
 kernel_rfl
theorem zfJ (a:Addr):zaO a [exD a "TooLong"]=some (.str "TooLong"):=by
 refine Eq.trans (congrArg (fun r=>Option.bind r gOut) ((zgL a "TooLong" _ (by simp)).trans (zdy (zg7 (zcp rfl))))) ?_
 kernel_rfl
theorem zn4 (a:Addr) (c:Str) (hc:c∈CSX):zaO a [exD a c]=some (.str c):=by
 rcases List.mem_cons.mp hc with rfl | hc
 ·exact zeU a
 rcases List.mem_cons.mp hc with rfl | hc
 ·exact zfJ a
 cases hc
noncomputable abbrev zbO:DS->Option Res:=(gSeq (gSet 2 (gB1 dAbs (gConsA (gVar 0) gNilA)))
  (gSeq (gSet 3 (gVar 1))
  (gSeq (gWhile (gB (g2 dGt (gVar 3) (gC (.int (0))))) (gPar 2 3 (gConsA (gVar 3) (gConsA (g2 dMod (gVar 2) (gVar 3)) gNilA))))
  (gRet (gTupD (gConsA (g2 dDiv (gVar 0) (gVar 2)) (gConsA (g2 dDiv (gVar 1) (gVar 2)) gNilA)))))))
noncomputable def zax:List D->Option D:=gDef 4 zbO
theorem zfu (a0 a1:D):zax [a0,a1]=(zbO [some a0,some a1,none,none]).bind gOut:=rfl
noncomputable abbrev zcR (a:Addr):DS->Option Res:=(gRet (gCall (zaO a) 1 (gConsA (gVar 6) gNilA)))
theorem zeD (a:Addr) (c:Str) (d:D) (h:handOf CSX (fun c=>.str c) c=some d):zcR a ((List.replicate 7 none).set 6 (some (exD a c)))=some (.rt d):=by
 obtain ⟨hc,rfl⟩:=zdu h
 exact zl6 rfl (zn4 a c hc)
noncomputable abbrev zaW:DS->Option Res:=(gSeq (gTry (gSetR 5 (gCall zV 5 (gConsA (gVar 0) (gConsA (gVar 1) (gConsA (gVar 2) (gConsA (gVar 3) (gConsA (gVar 4) gNilA))))))) (handOf CSX (fun c=>.str c)))
  (gSeq (gIf (gOr (gB (g2 dIsN (gVar 5) (gC .none))) (gTru (gIsi "tuple" (gVar 5)))) (gRet (gC (.str ""))) gSkip)
  (gRet (gC (.str "other")))))
noncomputable def zaY:List D->Option D:=gDef 7 zaW
theorem zeX (a0 a1 a2 a3 a4:D):zaY [a0,a1,a2,a3,a4]=(zaW [some a0,some a1,some a2,some a3,some a4,none,none]).bind gOut:=rfl
noncomputable abbrev zdh:DS->Option Res:=(gSeq (gIf (gOr (gB (g2 dLe (g2 dIx (gVar 0) (gC (.int (0)))) (gC (.int (0))))) (gOr (gB (g2 dGe (g2 dIx (gVar 2) (gC (.int (0)))) (g2 dIx (gVar 2) (gC (.int (1)))))) (gB (g2 dGe (g2 dMulI (g2 dIx (gVar 0) (gC (.int (0)))) (g2 dIx (gVar 2) (gC (.int (1))))) (g2 dMulI (g2 dIx (gVar 2) (gC (.int (0)))) (g2 dIx (gVar 0) (gC (.int (1))))))))) (gRet (gC (.str "NoShares"))) gSkip)
  (gSeq (gFor (gItems (gTupD (gConsA (gVar 1) (gConsA (gVar 3) gNilA)))) (gName' 5)
   (gIf (gOr (gB (g2 dLt (g2 dIx (gVar 5) (gC (.int (0)))) (gC (.int (0))))) (gB (g2 dGt (g2 dIx (gVar 5) (gC (.int (0)))) (g2 dIx (gVar 5) (gC (.int (1))))))) (gRet (gC (.str "NoShares"))) gSkip))
  (gRet (g2 dIx (gLst (gLstN (gConsA (gC (.str "TooLong")) (gConsA (gC (.str "")) gNilA)))) (gB1 dInt (gConsA (gChain dLe dLe (gC (.int (1))) (gVar 4) (gC (.int (24)))) gNilA))))))
noncomputable def zbS:List D->Option D:=gDef 6 zdh
theorem zhV (a0 a1 a2 a3 a4:D):zbS [a0,a1,a2,a3,a4]=(zdh [some a0,some a1,some a2,some a3,some a4,none]).bind gOut:=rfl
noncomputable abbrev zlJ:DS->Option Res:=(gSeq (gFor (gItems (gLst (g2N dCat (gLst (gSlL (gVar 0) gNoPart (gPart (gC (.int (20)))))) (gLst (gLstN (gConsA (gCall zas 2 (gConsA (gVar 0) (gConsA (gC (.int (0))) gNilA))) gNilA)))))) (gName' 1)
   (gSeq (gSet 2 (gLst (gCallN z5 2 (gConsA (gVar 1) (gConsA (gLst (gLstN (gInts [30,30,30,30,30,30,30,30,30,5,5,8]))) gNilA)))))
  (gSeq (gSetN 3 (gLstN gNilA))
  (gSeq (gFor (gRange1 (gConsA (gC (.int (4))) gNilA)) (gName' 4)
   (gSeq (gSet 5 (g2 dAddV (gC (.int (1))) (g2 dIx (gVar 2) (g2 dAddV (g2 dMulI (gC (.int (2))) (gVar 4)) (gC (.int (1)))))))
  (gSeq (gSet 6 (g2 dMod (g2 dIx (gVar 2) (g2 dMulI (gC (.int (2))) (gVar 4))) (g2 dAddV (gVar 5) (gC (.int (1))))))
  (gSeq (gIf (gAnd (gOr (gB (g2 dEq (g2 dIx (gVar 2) (gC (.int (9)))) (gVar 4))) (gB (g2 dEq (g2 dIx (gVar 2) (gC (.int (10)))) (gVar 4)))) (gB (g2 dEq (g2 dMod (g2 dIx (gVar 2) (gC (.int (11)))) (gC (.int (2)))) (gC (.int (0)))))) (gSet 6 (g2 dIx (gLst (gLstN (gConsA (gC (.int (0))) (gConsA (gVar 5) (gConsA (g2 dSub (g1 dNeg (gC (.int (1)))) (g2 dIx (gVar 2) (g2 dMulI (gC (.int (2))) (gVar 4)))) (gConsA (g2 dAddV (g2 dAddV (gVar 5) (gC (.int (1)))) (g2 dIx (gVar 2) (g2 dMulI (gC (.int (2))) (gVar 4)))) gNilA)))))) (g2 dDiv (g2 dIx (gVar 2) (gC (.int (11)))) (gC (.int (2)))))) gSkip)
  (gApp 3 (gCall zax 2 (gConsA (gVar 6) (gConsA (gVar 5) gNilA))))))))
  (gSeq (gIf (gAnd (gB (g2 dGt (g2 dIx (gVar 2) (gC (.int (11)))) (gC (.int (4))))) (gB (g2 dGt (g2 dMulI (g2 dIx (g2 dIx (gVar 3) (gC (.int (0)))) (gC (.int (0)))) (g2 dIx (g2 dIx (gVar 3) (gC (.int (2)))) (gC (.int (1))))) (g2 dMulI (g2 dIx (g2 dIx (gVar 3) (gC (.int (2)))) (gC (.int (0)))) (g2 dIx (g2 dIx (gVar 3) (gC (.int (0)))) (gC (.int (1)))))))) (gSetN 3 (gLstN (gConsA (g2 dIx (gVar 3) (gC (.int (2)))) (gConsA (g2 dIx (gVar 3) (gC (.int (1)))) (gConsA (g2 dIx (gVar 3) (gC (.int (0)))) (gConsA (g2 dIx (gVar 3) (gC (.int (3)))) gNilA)))))) gSkip)
  (gSeq (gSet 7 (g2 dAddV (gC (.int (1))) (g2 dMod (g2 dIx (gVar 2) (gC (.int (8)))) (gC (.int (12))))))
  (gSeq (gIf (gOr (gB (g2 dEq (g2 dIx (gVar 2) (gC (.int (11)))) (gC (.int (3))))) (gB (g2 dEq (g2 dIx (gVar 2) (gC (.int (11)))) (gC (.int (6)))))) (gSet 7 (g2 dIx (gLst (gLstN (gConsA (gC (.int (0))) (gConsA (g1 dNeg (gC (.int (1)))) (gConsA (gC (.int (25))) (gConsA (gC (.int (24))) (gConsA (g2 dSub (g1 dNeg (gC (.int (2)))) (g2 dMod (gVar 1) (g2 dPow (gC (.int (10))) (gC (.int (30)))))) (gConsA (g2 dAddV (gC (.int (25))) (g2 dMod (gVar 1) (g2 dPow (gC (.int (10))) (gC (.int (30)))))) gNilA)))))))) (g2 dMod (g2 dIx (gVar 2) (gC (.int (8)))) (gC (.int (6)))))) gSkip)
  (gSeq (gSet 8 (gCall zaY 5 (gConsA (g2 dIx (gVar 3) (gC (.int (0)))) (gConsA (g2 dIx (gVar 3) (gC (.int (1)))) (gConsA (g2 dIx (gVar 3) (gC (.int (2)))) (gConsA (g2 dIx (gVar 3) (gC (.int (3)))) (gConsA (gVar 7) gNilA)))))))
  (gIf (gB (g2 dNe (gVar 8) (gCall zbS 5 (gConsA (g2 dIx (gVar 3) (gC (.int (0)))) (gConsA (g2 dIx (gVar 3) (gC (.int (1)))) (gConsA (g2 dIx (gVar 3) (gC (.int (2)))) (gConsA (g2 dIx (gVar 3) (gC (.int (3)))) (gConsA (gVar 7) gNilA)))))))) (gRet (gC (.bool false))) gSkip)))))))))
  (gRet (gC (.bool true))))
noncomputable def zhz:List D->Option D:=gDef 9 zlJ
theorem zor (a0:D):zhz [a0]=(zlJ [some a0,none,none,none,none,none,none,none,none]).bind gOut:=rfl
end MyLaw
open L2
namespace MyLaw
open PySem L2 Q1
theorem zhr (ns:List Int) (k:Nat):zas [.list (ns.map .int),.int k]=some (.int (ns.getD k 0)):=by
 rw [zhD]
 simp only [gSeq,gIf,gB,g2,gVar,List.getElem?_cons_succ,List.getElem?_cons_zero,Option.join_some,gB1,gConsA,gNilA,Option.bind_some,znd,zlL,gRet,zog,gSkip,decide_eq_true_eq,gC]
 rw [List.length_map,List.getD_eq_getElem?_getD]
 by_cases h:k < ns.length
 ·rw [if_pos (by omega),zba (v:=.int ns[k]) (by rw [List.getElem?_map,List.getElem?_eq_getElem h]; rfl),List.getElem?_eq_getElem h]
  rfl
 ·rw [if_neg (by omega),List.getElem?_eq_none (by omega)]
  rfl
end MyLaw
namespace MyLaw
open PySem L2 Q1
noncomputable def dR (r:List Int):D:=.tuple (r.map .int)
noncomputable def dPl (p:List (List Int)):D:=.tuple (p.map dR)
noncomputable def Rise (l:List Int):Prop:=l.Pairwise (· < ·)
noncomputable def led (r:List Int):List Int:=ss (r ++ r.map (· + 1))
noncomputable def Nx (r s:List Int):Prop:=s≠[] /\ Rise s /\ ∀ x∈s,x∈led r
noncomputable def Chn:List Int->List (List Int)->Prop
 | _,[]=>True
 | r,s :: q=>Nx r s /\ Chn s q
noncomputable def lst:List Int->List (List Int)->List Int
 | r,[]=>r
 | _,s :: q=>lst s q
structure Pl (p:List (List Int)):Prop where
 ex:∃ q,p=[0] :: q /\ Chn [0] q
theorem zf5 {x:Int} {r:List Int}:x∈led r↔x∈r \/ x - 1∈r:=by
 unfold led
 rw [zgD,List.mem_append,List.mem_map]
 constructor
 ·rintro (h | ⟨y,h,e⟩)
  ·exact .inl h
  ·exact .inr (by have:x - 1=y:=by omega
                  rw [this]; exact h)
 ·rintro (h | h)
  ·exact .inl h
  ·exact .inr ⟨x - 1,h,by omega⟩
theorem zgT:∀ {l:List Int} {a b:Int},Rise l->(∀ x∈l,a<=x /\ x<=b)->(l.length:Int)<=max 0 (b - a + 1)
 | [],a,b,_,_=>by simp; omega
 | x :: l,a,b,h,hb=>by
   obtain ⟨h1,h2⟩:=List.pairwise_cons.mp h
   have hx:=hb x List.mem_cons_self
   have:=zgT (l:=l) (a:=x + 1) (b:=b) h2 fun y hy=>⟨by have:=h1 y hy; omega,(hb y (List.mem_cons_of_mem _ hy)).2⟩
   rw [List.length_cons]
   push_cast
   omega
theorem zi7 {i:Nat} {g:DS->Option D} {δ:DS} {ds:List D} {d:D} (h1:gVar i δ=some (.list ds)) (h2:g δ=some d) (h3:ds.length < 100000):gApp i g δ=some (.nx (δ.set i (some (.list (ds ++ [d]))))):=by
 unfold gApp
 rw [h1,h2]
 show (if ds.length < 100000 then _ else _)=_
 rw [if_pos h3]
theorem zom {g:DS->Option D} {δ:DS} {d:D} {ns:List Int} (h:g δ=some d) (h2:dRow d=some (ns.map .int)) (h3:ns.length < 64):gSS g δ=some ((ss ns).map .int):=by
 unfold gSS
 rw [h,Option.bind_some,h2,Option.bind_some,zdB,Option.bind_some,if_pos h3]
theorem zlf {a b:DS->Option D} {δ:DS} {x y:List D} (h1:a δ=some (.list x)) (h2:b δ=some (.list y)) (h3:x.length + y.length<=100000):g2N dCat a b δ=some (x ++ y):=by
 unfold g2N
 rw [h1,h2]
 show (if x.length + y.length<=100000 then _ else _)=_
 rw [if_pos h3]
theorem zgg {c:DS->Option Bool} {a b:DS->Option Res} {δ:DS} {r:Option Res} (x:Bool) (h:c δ=some x) (h1:x=true->a δ=r) (h2:x=false->b δ=r):gIf c a b δ=r:=by
 unfold gIf
 rw [h]
 cases x with
 | true=>exact h1 rfl
 | false=>exact h2 rfl
theorem zmd {f:List D->Option D} {g:DS->Option (List D)} {δ:DS} {ds:List D} {r:Option D} (h:g δ=some ds) (h2:f ds=r):gB1 f g δ=r:=by unfold gB1; rw [h]; exact h2
theorem zmh {g:DS->Option D} {δ:DS} {i:Int} (h:g δ=some (.int i)):gPart g δ=some (some i):=by unfold gPart; rw [h]; rfl
theorem ziR (a b:Int):dAddV (.int a) (.int b)=some (.int (a + b)):=rfl
theorem zlj {a b:DS->Option D} {δ:DS} {r:List Int} (h1:a δ=some (.list (r.map .int))) (h2:b δ=some (.list (r.map .int)) \/ b δ=some (dR r)) (hl:r.length < 32):gSS (gLst (g2N dCat a (gLst (gComp (gItems b) [] (g2 dAddV (gVar 0) (gC (.int 1))))))) δ=some ((led r).map .int):=by
 have hi:gItems b δ=some (r.map .int):=by
  unfold gItems
  rcases h2 with h2 | h2
  ·rw [h2]; rfl
  ·rw [h2]; rfl
 have hc:gComp (gItems b) [] (g2 dAddV (gVar 0) (gC (.int 1))) δ=some ((r.map (· + 1)).map .int):=zdq PyData.int PyData.int (fun x=>x + 1) r hi (by omega) (fun x _=>rfl)
 have hcat:=zlf h1 (zZ hc) (by simp; omega)
 refine zom (zZ hcat) ?_ (by simp; omega)
 rw [List.map_append]
 rfl
theorem zgB (c b:Int) (n:Nat) (hb:0 < b) (hn:n<=1000):Gets (zbe [.int c,.int b,.int (n:Nat)]) fun ds=>∃ l:List Int,ds=l.map .int /\ l.length=n /\ ∀ x∈l,0<=x /\ x < b:=by
 rw [zgj]
 refine zQ [some (.int c),some (.int b),some (.int (n:Nat)),some (.list []),none,none] rfl ?_
 refine zg3 0 n (fun i δ=>∃ (l:List Int) (x y:Option D),δ=[some (.int c),some (.int b),some (.int (n:Nat)),some (.list (l.map .int)),x,y] /\ l.length=i /\ ∀ x∈l,0<=x /\ x < b) (zbH rfl (by omega)) ⟨[],none,none,rfl,rfl,by simp⟩ ?_ ?_
 ·rintro i δ hi ⟨l,x,y,rfl,hl,hx⟩
  have m1:dMulI (.int (c % 1000003)) (.int 48271)=some (.int (c % 1000003 * 48271)):=zbm (zbM (by decide) (by decide))
  have m2:dMulI (.int (0 + (i:Int))) (.int (0 + (i:Int)))=some (.int ((0 + (i:Int)) * (0 + (i:Int)))):=zbm (zbM (by omega) (by omega))
  have m3:dMulI (.int ((0 + (i:Int)) * (0 + (i:Int)))) (.int 69621)=some (.int ((0 + (i:Int)) * (0 + (i:Int)) * 69621)):=zbm (zbM (by decide) (by decide))
  have m4:dMulI (.int (0 + (i:Int))) (.int 16807)=some (.int ((0 + (i:Int)) * 16807)):=zbm (zbM (by decide) (by decide))
  refine ⟨_,[some (.int c),some (.int b),some (.int (n:Nat)),some (.list ((l ++ [_]).map .int)),some (.int (0 + (i:Int))),some (.int ((c % 1000003 * 48271 + (0 + (i:Int)) * (0 + (i:Int)) * 69621 + (0 + (i:Int)) * 16807) % 2147483647))],rfl,
   zY [some (.int c),some (.int b),some (.int (n:Nat)),some (.list (l.map .int)),some (.int (0 + (i:Int))),some (.int ((c % 1000003 * 48271 + (0 + (i:Int)) * (0 + (i:Int)) * 69621 + (0 + (i:Int)) * 16807) % 2147483647))]
    (zR (zj (zj (zj (zj (zj rfl rfl (zcd (by decide))) rfl m1) (zj (zj rfl rfl m2) rfl m3) rfl) (zj rfl rfl m4) rfl) rfl (zcd (by decide))))
    ((zi7 (d:=.int (((c % 1000003 * 48271 + (0 + (i:Int)) * (0 + (i:Int)) * 69621 + (0 + (i:Int)) * 16807) % 2147483647 * 39373 + c) % 2147483629 / 13 % b)) rfl
      (zj (zj (zj (zj (zj rfl rfl (zbm (zbM (by decide) (by decide)))) rfl rfl) rfl (zcd (by decide))) rfl (zjB (by decide) (zbF (zal (m:=4) (by decide)) (by decide)))) rfl (zcd hb)) (by simp; omega)).trans (by rw [List.map_append]; rfl)),l ++ [_],_,_,rfl,by simp [hl],?_⟩
  intro z hz
  rcases List.mem_append.mp hz with q | q
  ·exact hx z q
  ·rw [List.mem_singleton.mp q]
   exact ⟨Int.emod_nonneg _ (by omega),Int.emod_lt_of_pos _ hb⟩
 ·rintro δ' ⟨l,x,y,rfl,hl,hx⟩
  exact ret (.list (l.map .int)) rfl (.mk rfl ⟨l,rfl,hl,hx⟩)
end MyLaw
namespace MyLaw
open PySem L2 Q1
theorem zlu {i:Int} {T:List Int}:dIn (.int i) (.list (T.map .int))=some (.bool (decide (i∈T))):=by
 have hf:(flatD (.int i) && (T.map PyData.int).all flatD)=true:=by simp [flatD]
 show (if (flatD (.int i) && (T.map PyData.int).all flatD)=true then some (PyData.bool ((T.map PyData.int).any fun z=>eqD z (.int i))) else none)=_
 rw [if_pos hf,List.any_map]
 congr 2
 rw [Bool.eq_iff_iff,List.any_eq_true,decide_eq_true_eq]
 constructor
 ·rintro ⟨x,hx,e⟩
  rw [Function.comp,zjp,decide_eq_true_eq] at e
  rw [<- e]; exact hx
 ·intro h
  exact ⟨i,h,by rw [Function.comp,zjp]; simp⟩
theorem zm4 {i:Int} {T:List Int}:dIn (.int i) (dR T)=some (.bool (decide (i∈T))):=zlu
theorem dd {a:Int} (b:Int) (h:0 < b) (h2:b.natAbs < 2 ^ 70):dDiv (.int a) (.int b)=some (.int (a / b)):=zjB h (zbF (zal h2) (by decide))
theorem zn7 {a b:DS->Option D} {δ:DS} {x y:Bool} (h1:a δ=some (.bool x)) (h2:x=true->b δ=some (.bool y)):gAndV a b δ=some (.bool (x && y)):=by
 unfold gAndV
 rw [zbE h1,Option.bind_some]
 cases x with
 | true=>rw [if_pos rfl,h2 rfl]; rfl
 | false=>rfl
theorem zok {p:List (List Int)} {i:Int} (h0:0<=i) (h1:i < (p.length:Int)):dIx (dPl p) (.int i)=some (dR (p.getD i.toNat [])):=by
 obtain ⟨k,rfl⟩:∃ k:Nat,i=(k:Int):=⟨i.toNat,by omega⟩
 have hk:k < p.length:=by omega
 refine zba ?_
 rw [List.getElem?_map,Int.toNat_natCast,List.getD_eq_getElem?_getD,List.getElem?_eq_getElem hk]
 rfl
end MyLaw
namespace MyLaw
open PySem L2 Q1
noncomputable abbrev WF:=Int->Int->Int
noncomputable def dC (c:Int×Int):D:=.tuple [.int c.1,.int c.2]
noncomputable def stepF (F:WF) (c:Int×Int):WF:=fun x y=>F x y + (if x=c.1 + 1 /\ y=c.2 then F c.1 c.2 else 0) + (if x=c.1 /\ y=c.2 + 1 then F c.1 c.2 else 0)
noncomputable def beg0 (c:Int×Int):WF:=fun x y=>if x=c.1 /\ y=c.2 then 1 else 0
noncomputable def rowC (n:Nat) (r:List Int):List (Int×Int):=r.map fun b=>(b,(n:Int) - b)
noncomputable def cnts:Nat->List (List Int)->List (Int×Int)
 | _,[]=>[]
 | n,r :: p=>rowC n r ++ cnts (n + 1) p
theorem zcj (r:List Int):∀ (p:List (List Int)) (n:Nat),cnts n (p ++ [r])=cnts n p ++ rowC (n + p.length) r
 | [],n=>by simp [cnts]
 | s :: p,n=>by
   rw [List.cons_append,cnts,cnts,zcj r p (n + 1),List.append_assoc,List.length_cons,show n + 1 + p.length=n + (p.length + 1) by omega]
theorem zeG:∀ (p:List (List Int)) (n:Nat),(∀ r∈p,r.length<=25)->(cnts n p).length<=25 * p.length
 | [],_,_=>by simp [cnts]
 | r :: p,n,h=>by
   have h1:=zeG p (n + 1) fun s hs=>h s (List.mem_cons_of_mem _ hs)
   have h2:=h r List.mem_cons_self
   rw [cnts,List.length_append,List.length_cons,rowC,List.length_map]
   omega
noncomputable def lv (A:Int->Int) (r:List Int) (b:Int):Int:=(if b - 1∈r then A (b - 1) else 0) + (if b∈r then A b else 0)
theorem zk1 (A:Int->Int) (b:Int):lv A [] b=0:=by simp [lv]
theorem zjX {A:Int->Int} {r s:List Int} (h:∀ x,x∈r↔x∈s) (b:Int):lv A r b=lv A s b:=by simp only [lv,h]
noncomputable def WW:(Int->Int)->List (List Int)->Nat->Int->Int
 | A,_,0,b=>A b
 | _,[],_ + 1,_=>0
 | A,r :: p,k + 1,b=>WW (lv A r) p k b
theorem WW_0 (A:Int->Int) (p:List (List Int)):WW A p 0=A:=by funext b; cases p <;> rfl
theorem ziU:∀ (p:List (List Int)) (A:Int->Int) (k:Nat) (b:Int),WW A p (k + 1) b=lv (WW A p k) (p.getD k []) b
 | [],A,k,b=>by
   rw [show ([]:List (List Int)).getD k []=[] from rfl,zk1]; rfl
 | r :: p,A,0,b=>by
   show WW (lv A r) p 0 b=lv (WW A (r :: p) 0) r b
   rw [WW_0,WW_0]
 | r :: p,A,k + 1,b=>by
   show WW (lv A r) p (k + 1) b=lv (WW (lv A r) p k) (p.getD k []) b
   exact ziU p (lv A r) k b
structure Lev (n:Nat) (F:WF) (A B:Int->Int):Prop where
 at0:∀ x y:Int,x + y=(n:Int)->F x y=A x
 at1:∀ x y:Int,x + y=(n:Int) + 1->F x y=B x
 up:∀ x y:Int,(n:Int) + 1 < x + y->F x y=0
theorem zkE {n:Nat} {F:WF} {A:Int->Int} {bs:List Int} {b:Int} (h:Lev n F A (lv A bs)) (hb:b∉bs):Lev n (stepF F (b,(n:Int) - b)) A (lv A (b :: bs)) /\ ∀ x y:Int,x + y < (n:Int)->stepF F (b,(n:Int) - b) x y=F x y:=by
 have e:∀ x y,stepF F (b,(n:Int) - b) x y=F x y + (if x=b + 1 /\ y=(n:Int) - b then A b else 0) + (if x=b /\ y=(n:Int) - b + 1 then A b else 0):=by
  intro x y
  unfold stepF
  rw [h.at0 b ((n:Int) - b) (by omega)]
 refine ⟨⟨?_,?_,?_⟩,?_⟩
 ·intro x y hxy
  rw [e,if_neg (by omega),if_neg (by omega),h.at0 x y hxy]; omega
 ·intro x y hxy
  rw [e,h.at1 x y hxy]
  have e1:(x=b + 1 /\ y=(n:Int) - b)↔x - 1=b:=by constructor <;> intro z <;> omega
  have e2:(x=b /\ y=(n:Int) - b + 1)↔x=b:=by constructor <;> intro z <;> omega
  simp only [e1,e2,lv,List.mem_cons]
  by_cases c1:x - 1=b
  ·have c2:¬ x=b:=by omega
   have c3:x - 1∉bs:=by rw [c1]; exact hb
   simp only [c1,c2,true_or,false_or,if_true,if_false,if_neg hb]
   omega
  ·by_cases c2:x=b
   ·subst c2
    simp only [c1,true_or,false_or,if_true,if_false,if_neg hb]
    omega
   ·simp only [c1,c2,false_or,if_false]
    omega
 ·intro x y hxy
  rw [e,if_neg (by omega),if_neg (by omega),h.up x y hxy]; rfl
 ·intro x y hxy
  rw [e,if_neg (by omega),if_neg (by omega)]; omega
theorem zhS {n:Nat} {A:Int->Int}:∀ (r bs:List Int) (F:WF),Lev n F A (lv A bs)->(∀ x∈r,x∉bs)->r.Nodup->Lev n ((rowC n r).foldl stepF F) A (lv A (r ++ bs)) /\ ∀ x y:Int,x + y < (n:Int)->(rowC n r).foldl stepF F x y=F x y
 | [],bs,F,h,_,_=>⟨h,fun _ _ _=>rfl⟩
 | b :: r,bs,F,h,hd,nd=>by
   obtain ⟨h1,h2⟩:=zkE h (hd b List.mem_cons_self)
   obtain ⟨n1,n2⟩:=List.nodup_cons.mp nd
   obtain ⟨h3,h4⟩:=zhS r (b :: bs) _ h1 (fun x hx z=>by
    rcases List.mem_cons.mp z with q | q
    ·subst q; exact n1 hx
    ·exact hd x (List.mem_cons_of_mem _ hx) q) n2
   refine ⟨?_,fun x y hxy=>(h4 x y hxy).trans (h2 x y hxy)⟩
   have:lv A (r ++ b :: bs)=lv A ((b :: r) ++ bs):=by
    funext x
    exact zjX (fun z=>by simp only [List.mem_append,List.mem_cons,List.cons_append]; constructor <;> rintro (q | q | q) <;> simp [q]) x
   rw [<- this]
   exact h3
theorem zgW:∀ (p:List (List Int)) (n:Nat) (A:Int->Int) (F:WF),(∀ r∈p,r.Nodup)->(∀ x y:Int,x + y=(n:Int)->F x y=A x)->(∀ x y:Int,(n:Int) < x + y->F x y=0)->
  ∀ x y:Int,(x + y < (n:Int)->(cnts n p).foldl stepF F x y=F x y) /\ ∀ k:Nat,x + y=(n:Int) + (k:Int)->(cnts n p).foldl stepF F x y=WW A p k x
 | [],n,A,F,_,h0,h1,x,y=>by
   refine ⟨fun _=>rfl,fun k hk=>?_⟩
   show F x y=_
   cases k with
   | zero=>rw [WW_0]; exact h0 x y (by omega)
   | succ k=>exact h1 x y (by omega)
 | r :: p,n,A,F,hn,h0,h1,x,y=>by
   have L0:Lev n F A (lv A []):=⟨h0,fun x y q=>by rw [zk1]; exact h1 x y (by omega),fun x y q=>h1 x y (by omega)⟩
   obtain ⟨L1,K1⟩:=zhS r [] F L0 (fun x _ z=>by simp at z) (hn r List.mem_cons_self)
   rw [List.append_nil] at L1
   have ih:=zgW p (n + 1) (lv A r) ((rowC n r).foldl stepF F) (fun s hs=>hn s (List.mem_cons_of_mem _ hs)) (fun x y q=>L1.at1 x y (by push_cast at q; omega)) (fun x y q=>L1.up x y (by push_cast at q; omega)) x y
   rw [cnts,List.foldl_append]
   refine ⟨fun q=>(ih.1 (by push_cast; omega)).trans (K1 x y q),fun k hk=>?_⟩
   cases k with
   | zero=>
     rw [WW_0,ih.1 (by push_cast; omega)]
     exact L1.at0 x y (by omega)
   | succ k=>exact ih.2 k (by push_cast; push_cast at hk; omega)
theorem zmj {l:List Int} (h:Rise l):l.Nodup:=h.imp fun z e=>by omega
theorem ziO:∀ {q:List (List Int)} {r:List Int} {n:Nat},(∀ x∈r,0<=x /\ x<=(n:Int))->Chn r q->(∀ s∈q,s.Nodup) /\ ∀ k,∀ x∈q.getD k [],0<=x /\ x<=((n + 1 + k:Nat):Int)
 | [],_,_,_,_=>⟨by simp,fun k x hx=>by simp at hx⟩
 | s :: q,r,n,hr,hc=>by
   have hs:∀ x∈s,0<=x /\ x<=((n + 1:Nat):Int):=fun x hx=>by
    rcases zf5.mp (hc.1.2.2 x hx) with h | h
    ·have:=hr x h; omega
    ·have:=hr _ h; omega
   obtain ⟨i1,i2⟩:=ziO (n:=n + 1) hs hc.2
   refine ⟨fun t ht=>?_,fun k x hx=>?_⟩
   ·rcases List.mem_cons.mp ht with z | z
    ·rw [z]; exact zmj hc.1.2.1
    ·exact i1 t z
   ·cases k with
    | zero=>exact hs x (by simpa using hx)
    | succ k=>
      have:=i2 k x (by simpa using hx)
      omega
theorem zlT {p:List (List Int)} (h:Pl p):(∀ s∈p,s.Nodup) /\ ∀ k,∀ x∈p.getD k [],0<=x /\ x<=(k:Int):=by
 obtain ⟨q,rfl,hc⟩:=h.ex
 obtain ⟨i1,i2⟩:=ziO (q:=q) (r:=[0]) (n:=0) (by simp) hc
 refine ⟨fun s hs=>?_,fun k x hx=>?_⟩
 ·rcases List.mem_cons.mp hs with z | z
  ·rw [z]; simp
  ·exact i1 s z
 ·cases k with
  | zero=>simp at hx; subst hx; simp
  | succ k=>
    have:=i2 k x (by simpa using hx)
    omega
noncomputable def Dt (kds:List (D×D)) (F:WF):Prop:=∀ b g:Int,(dLook kds [.inl b,.inl g]).getD (.int 0)=.int (F b g)
theorem zib {kds:List (D×D)} {k:List Key} {d:D} (h:fnD kds=false):fnD (dPutD kds k d)=false:=by
 unfold dPutD
 split
 ·cases kds with
  | nil=>rfl
  | cons p r=>
    obtain ⟨p1,p2⟩:=p
    rw [List.map_cons]
    split <;> (cases p1 with
     | list l=>
       cases l with
       | nil=>cases h
       | cons _ _=>rfl
     | _=>rfl)
 ·cases kds with
  | nil=>rfl
  | cons p r=>
    obtain ⟨p1,p2⟩:=p
    cases p1 with
    | list l=>
      cases l with
      | nil=>cases h
      | cons _ _=>rfl
    | _=>rfl
theorem zed {gd gk ge:DS->Option D} {δ:DS} {kds:List (D×D)} {c:Int×Int} {z:D} (hf:fnD kds=false) (h1:gd δ=some (.dict kds)) (h2:gk δ=some (dC c)) (h3:ge δ=some z):gDgetD gd gk ge δ=some ((dLook kds [.inl c.1,.inl c.2]).getD z):=by
 unfold gDgetD; rw [h1,h2,h3]
 show (if fnD kds=true then none else _)=_
 rw [hf]; rfl
theorem zmO {gd gk:DS->Option D} {δ:DS} {kds:List (D×D)} {c:Int×Int} (hf:fnD kds=false) (h1:gd δ=some (.dict kds)) (h2:gk δ=some (dC c)):gDget gd gk δ=dLook kds [.inl c.1,.inl c.2]:=by
 unfold gDget; rw [h1,h2]
 show (if fnD kds=true then none else _)=_
 rw [hf]; rfl
theorem zhQ {i:Nat} {gk ge:DS->Option D} {δ:DS} {kds:List (D×D)} {c:Int×Int} {d:D} (h1:gVar i δ=some (.dict kds)) (h2:gk δ=some (dC c)) (h3:ge δ=some d) (h4:kds.length < 100000):gSetK i gk ge δ=some (.nx (δ.set i (some (.dict (dPutD kds [.inl c.1,.inl c.2] d))))):=by
 unfold gSetK; rw [h1,h2,h3]
 show (if kds.length < 100000 then _ else _)=_
 rw [if_pos h4]
theorem zll {b g x y:Int}:(([.inl b,.inl g]:List Key)=[.inl x,.inl y])↔b=x /\ g=y:=by simp
theorem for2 {t:D->DS->Option DS} {b:DS->Option Res} {d1 d2:D} {δ:DS} (δ1 δ2 δ3 δ4:DS) (h1:t d1 δ=some δ1) (h2:b δ1=some (.nx δ2)) (h3:t d2 δ2=some δ3) (h4:b δ3=some (.nx δ4)):forD t b [d1,d2] δ=some (.nx δ4):=by
 simp only [forD,h1,h2,h3,h4,Option.bind_some]
theorem Dt.put {kds:List (D×D)} {F:WF} (h:Dt kds F) (x y v:Int):Dt (dPutD kds [.inl x,.inl y] (.int v)) (fun b g=>if b=x /\ g=y then v else F b g):=by
 intro b g
 show _=PyData.int (if b=x /\ g=y then v else F b g)
 rw [zju]
 by_cases e:b=x /\ g=y
 ·rw [if_pos (zll.mpr e),if_pos e]; rfl
 ·rw [if_neg (fun z=>e (zll.mp z)),if_neg e]; exact h b g
end MyLaw
namespace MyLaw
open PySem L2 Q1
theorem zkZ {i:Nat} {g:DS->Option (List D)} {δ:DS} {ds zs:List D} (h1:gVar i δ=some (.list ds)) (h2:g δ=some zs) (h3:ds.length + zs.length<=100000):gExt i g δ=some (.nx (δ.set i (some (.list (ds ++ zs))))):=by
 unfold gExt
 rw [h1,h2]
 show (if ds.length + zs.length<=100000 then _ else _)=_
 rw [if_pos h3]
theorem zlH (p:List (List Int)):enumD (p.map dR)=p.zipIdx.map fun x=>.tuple [.int (x.2:Nat),dR x.1]:=by
 unfold enumD
 rw [List.zipIdx_map,List.map_map]
 rfl
theorem zhB {p:List (List Int)} (hl:p.length<=24) (h25:∀ r∈p,r.length<=25):za4 [dPl p]=some ((cnts 0 p).map dC):=by
 rw [zhw]
 refine zU ?_
 refine zQ [some (dPl p),some (.list []),none,none] rfl ?_
 refine zdD (fun x:List Int×Nat=>PyData.tuple [.int (x.2:Nat),dR x.1]) p.zipIdx (fun i δ=>∃ a b,δ=[some (dPl p),some (.list ((cnts 0 (p.take i)).map dC)),a,b]) ?_ ⟨none,none,rfl⟩ ?_ ?_
 ·show some (enumD (p.map dR))=_
  rw [zlH]
 ·rintro i ⟨r,n⟩ δ hi ⟨a,b,rfl⟩
  rw [List.getElem?_zipIdx] at hi
  cases er:p[i]? with
  | none=>rw [er] at hi; cases hi
  | some r'=>
    rw [er] at hi
    simp only [Option.map_some,Nat.zero_add,Option.some.injEq,Prod.mk.injEq] at hi
    obtain ⟨rfl,rfl⟩:=hi
    have hil:=(List.getElem?_eq_some_iff.mp er).1
    have hr:=h25 r' (List.mem_of_getElem? er)
    have ht:p.take (i + 1)=p.take i ++ [r']:=by
     rw [List.take_add_one,er]; rfl
    have hln:(p.take i).length=i:=by rw [List.length_take]; omega
    have hc0:=zeG (p.take i) 0 fun s hs=>h25 s (List.mem_of_mem_take hs)
    refine ⟨_,[some (dPl p),some (.list ((cnts 0 (p.take (i + 1))).map dC)),some (.int (i:Nat)),some (dR r')],rfl,?_,_,_,rfl⟩
    have hc:gComp (gItems (gVar 3)) [2] (gTupD (gConsA (gVar 0) (gConsA (g2 dSub (gVar 1) (gVar 0)) gNilA))) [some (dPl p),some (.list ((cnts 0 (p.take i)).map dC)),some (.int (i:Nat)),some (dR r')]=some ((r'.map fun b=>(b,(i:Int) - b)).map dC):=
     zdq PyData.int dC (fun b=>(b,(i:Int) - b)) r' rfl (by omega) fun x _=>rfl
    refine (zkZ rfl hc (by simp only [List.length_map]; omega)).trans ?_
    rw [ht,zcj,hln,Nat.zero_add,List.map_append]
    rfl
 ·rintro δ' ⟨a,b,rfl⟩
  refine ret (.list ((cnts 0 p).map dC)) ?_ (.mk rfl rfl)
  rw [List.length_zipIdx,List.take_length]
  rfl
theorem ziW {a b:Str} (ha:PyData.strOk a=true) (hb:PyData.strOk b=true) {c:Bool} (hc:(a == b)=c):dEq (.str a) (.str b)=some (.bool c):=by
 unfold dEq
 simp [SeqAt.shaped,PyData.canLay0,PyData.depth,PyData.eqv,ha,hb,hc]
theorem zje (c:Int×Int):zbd [dC c,.str "b"]=some (dC (c.1 + 1,c.2)):=by
 rw [zic]
 exact zU (zeo true (zbE (b:=true) (zj rfl rfl (ziW (by decide +kernel) (by decide +kernel) (by decide +kernel)))) (fun _=>zeS (dC (c.1 + 1,c.2)) rfl (.mk rfl rfl)) fun z=>nomatch z)
theorem zjG (c:Int×Int):zbd [dC c,.str "g"]=some (dC (c.1,c.2 + 1)):=by
 rw [zic]
 exact zU (ziw (zbE (b:=false) (zj rfl rfl (ziW (by decide +kernel) (by decide +kernel) (by decide +kernel)))) (ret (dC (c.1,c.2 + 1)) rfl (.mk rfl rfl)))
theorem zgv {p:List (List Int)} (hl:p.length<=24) (h25:∀ r∈p,r.length<=25) (c:Int×Int):∃ kds,zaP [dPl p,dC c]=some (.dict kds) /\ Dt kds ((cnts 0 p).foldl stepF (beg0 c)) /\ fnD kds=false:=by
 have hcl:=zeG p 0 h25
 have main:Gets (zaP [dPl p,dC c]) fun d=>∃ kds,d=.dict kds /\ Dt kds ((cnts 0 p).foldl stepF (beg0 c)) /\ fnD kds=false:=by
  rw [zgd]
  refine zQ [some (dPl p),some (dC c),some (.dict [(dC c,.int 1)]),none,none,none] rfl ?_
  refine zdD dC (cnts 0 p) (fun i δ=>∃ kds a b e,δ=[some (dPl p),some (dC c),some (.dict kds),a,b,e] /\ Dt kds (((cnts 0 p).take i).foldl stepF (beg0 c)) /\ kds.length<=1 + 2 * i /\ fnD kds=false) ?_ ⟨_,_,_,_,rfl,?_,by simp,rfl⟩ ?_ ?_
  ·have ec:gLst (gCallN za4 1 (gConsA (gVar 0) gNilA)) [some (dPl p),some (dC c),some (.dict [(dC c,.int 1)]),none,none,none]=some (.list ((cnts 0 p).map dC)):=zZ (za1 (zd rfl rfl) rfl (zhB hl h25))
   unfold gItems
   rw [ec]
   rfl
  ·intro b g
   have:dPutD [] [.inl c.1,.inl c.2] (.int 1)=[(dC c,.int 1)]:=rfl
   rw [<- this]
   exact (Dt.put (kds:=[]) (F:=fun _ _=>0) (fun b g=>rfl) c.1 c.2 1) b g
  ·rintro i k δ hi ⟨kds,a,b,e,rfl,hd,hlen,hfn⟩
   have hil:=(List.getElem?_eq_some_iff.mp hi).1
   obtain ⟨F,hF⟩:∃ F,F=((cnts 0 p).take i).foldl stepF (beg0 c):=⟨_,rfl⟩
   rw [<- hF] at hd
   have hnext:((cnts 0 p).take (i + 1)).foldl stepF (beg0 c)=stepF F k:=by
    rw [List.take_add_one,hi,List.foldl_append,<- hF]; rfl
   obtain ⟨k1,hk1⟩:∃ k1,k1=dPutD kds [.inl (k.1 + 1),.inl k.2] (.int (F (k.1 + 1) k.2 + F k.1 k.2)):=⟨_,rfl⟩
   have hf1:fnD k1=false:=by rw [hk1]; exact zib hfn
   have hd1:=hd.put (k.1 + 1) k.2 (F (k.1 + 1) k.2 + F k.1 k.2)
   rw [<- hk1] at hd1
   have hd2:=hd1.put k.1 (k.2 + 1) (F k.1 (k.2 + 1) + F k.1 k.2)
   have l1:k1.length<=kds.length + 1:=by rw [hk1]; exact zfB _ _ _
   have l2:=zfB k1 [.inl k.1,.inl (k.2 + 1)] (.int (F k.1 (k.2 + 1) + F k.1 k.2))
   refine ⟨_,[some (dPl p),some (dC c),some (.dict (dPutD k1 [.inl k.1,.inl (k.2 + 1)] (.int (F k.1 (k.2 + 1) + F k.1 k.2)))),some (dC k),some (.int (F k.1 k.2)),some (dC (k.1,k.2 + 1))],rfl,?_,_,_,_,_,rfl,?_,by omega,zib hf1⟩
   ·refine zY [some (dPl p),some (dC c),some (.dict kds),some (dC k),some (.int (F k.1 k.2)),e] (zR ((zed hfn rfl rfl rfl).trans (congrArg some (hd k.1 k.2)))) ?_
    unfold gFor
    have hit:gItems (gTupD (gConsA (gCall zbd 2 (gConsA (gVar 3) (gConsA (gC (.str "b")) gNilA))) (gConsA (gCall zbd 2 (gConsA (gVar 3) (gConsA (gC (.str "g")) gNilA))) gNilA))) [some (dPl p),some (dC c),some (.dict kds),some (dC k),some (.int (F k.1 k.2)),e]=some [dC (k.1 + 1,k.2),dC (k.1,k.2 + 1)]:=by
     have e1:gCall zbd 2 (gConsA (gVar 3) (gConsA (gC (.str "b")) gNilA)) [some (dPl p),some (dC c),some (.dict kds),some (dC k),some (.int (F k.1 k.2)),e]=some (dC (k.1 + 1,k.2)):=zq (zd rfl (zd rfl rfl)) rfl (zje k)
     have e2:gCall zbd 2 (gConsA (gVar 3) (gConsA (gC (.str "g")) gNilA)) [some (dPl p),some (dC c),some (.dict kds),some (dC k),some (.int (F k.1 k.2)),e]=some (dC (k.1,k.2 + 1)):=zq (zd rfl (zd rfl rfl)) rfl (zjG k)
     unfold gItems gTupD
     rw [zd e1 (zd e2 rfl)]
     rfl
    rw [hit,Option.bind_some]
    refine for2 [some (dPl p),some (dC c),some (.dict kds),some (dC k),some (.int (F k.1 k.2)),some (dC (k.1 + 1,k.2))] [some (dPl p),some (dC c),some (.dict k1),some (dC k),some (.int (F k.1 k.2)),some (dC (k.1 + 1,k.2))] [some (dPl p),some (dC c),some (.dict k1),some (dC k),some (.int (F k.1 k.2)),some (dC (k.1,k.2 + 1))] _ rfl ?_ rfl ?_
    ·refine (zhQ (c:=(k.1 + 1,k.2)) rfl rfl (zj ((zed (c:=(k.1 + 1,k.2)) hfn rfl rfl rfl).trans (congrArg some (hd (k.1 + 1) k.2))) rfl rfl) (by omega)).trans ?_
     rw [hk1]; rfl
    ·have h5:(dLook k1 [.inl k.1,.inl (k.2 + 1)]).getD (.int 0)=.int (F k.1 (k.2 + 1)):=by
      have:=hd1 k.1 (k.2 + 1)
      rw [this]
      show PyData.int (if k.1=k.1 + 1 /\ k.2 + 1=k.2 then _ else _)=_
      rw [if_neg (by omega)]
     exact zhQ (c:=(k.1,k.2 + 1)) rfl rfl (zj ((zed (c:=(k.1,k.2 + 1)) hf1 rfl rfl rfl).trans (congrArg some h5)) rfl rfl) (by omega)
   ·rw [hnext]
    intro x y
    rw [hd2 x y]
    congr 1
    show (if x=k.1 /\ y=k.2 + 1 then _ else if x=k.1 + 1 /\ y=k.2 then _ else F x y)=F x y + _ + _
    by_cases c1:x=k.1 /\ y=k.2 + 1
    ·rw [if_pos c1,if_pos c1,if_neg (by omega),c1.1,c1.2]; omega
    ·rw [if_neg c1,if_neg c1]
     by_cases c2:x=k.1 + 1 /\ y=k.2
     ·rw [if_pos c2,if_pos c2,c2.1,c2.2]; omega
     ·rw [if_neg c2,if_neg c2]; omega
  ·rintro δ' ⟨kds,a,b,e,rfl,hd,_,hfn⟩
   rw [List.take_length] at hd
   exact ret (.dict kds) rfl (.mk rfl ⟨kds,rfl,hd,hfn⟩)
 obtain ⟨_,e,kds,rfl,hd,hfn⟩:=main
 exact ⟨kds,e,hd,hfn⟩
noncomputable def A0:Int->Int:=fun b=>if b=0 then 1 else 0
theorem zkM {p:List (List Int)} (h:Pl p) {x y:Int} {k:Nat} (e:x + y=(k:Int)):(cnts 0 p).foldl stepF (beg0 (0,0)) x y=WW A0 p k x:=by
 refine (zgW p 0 A0 (beg0 (0,0)) (zlT h).1 ?_ ?_ x y).2 k (by push_cast; omega)
 ·intro x y q
  unfold beg0 A0
  by_cases c:x=0
  ·rw [if_pos ⟨c,by push_cast at q; show y=0; omega⟩,if_pos c]
  ·rw [if_neg (fun z=>c z.1),if_neg c]
 ·intro x y q
  unfold beg0
  rw [if_neg]
  rintro ⟨z1,z2⟩
  have z1':x=0:=z1
  have z2':y=0:=z2
  push_cast at q
  omega
end MyLaw
namespace MyLaw
open PySem L2 Q1
theorem zli {α β:Type} (enc:α->D) (enc':β->D) (h:α->β) (P:α->Bool) {f:D->Option (Option D)}:∀ l:List α,(∀ a∈l,f (enc a)=some (if P a=true then some (enc' (h a)) else none))->fltD f (l.map enc)=some (((l.filter P).map h).map enc')
 | [],_=>rfl
 | a :: l,q=>by
   have ih:=zli enc enc' h P l fun b hb=>q b (List.mem_cons_of_mem _ hb)
   rw [List.map_cons,fltD,q a List.mem_cons_self,Option.bind_some,ih,Option.bind_some,List.filter_cons]
   cases P a <;> rfl
theorem zgE {α β:Type} (enc:α->D) (enc':β->D) (h:α->β) (P:α->Bool) {gi:DS->Option (List D)} {ix:List Nat} {gc:DS->Option Bool} {ge:DS->Option D} {δ:DS} (l:List α) (hi:gi δ=some (l.map enc)) (hl:l.length<=100000)
  (hc:∀ a∈l,gc (some (enc a) :: captD ix δ)=some (P a)) (he:∀ a∈l,P a=true->ge (some (enc a) :: captD ix δ)=some (enc' (h a))):gCompL gi 1 ix (gName' 0) gc ge δ=some (((l.filter P).map h).map enc'):=by
 unfold gCompL
 rw [hi,Option.bind_some,if_pos (by rw [List.length_map]; exact hl)]
 refine zli enc enc' h P l fun a ha=>?_
 show (Option.bind (some (some (enc a) :: captD ix δ)) _)=_
 rw [Option.bind_some,hc a ha,Option.bind_some]
 cases q:P a with
 | true=>rw [if_pos rfl,if_pos rfl,he a ha q]; rfl
 | false=>rfl
theorem ziY {f f':D->D->Option D} {a b c:DS->Option D} {δ:DS} {x y w:D} {u v:Bool} (h1:a δ=some x) (h2:b δ=some y) (h3:f x y=some (.bool u)) (h4:c δ=some w) (h5:f' y w=some (.bool v)):gChain f f' a b c δ=some (.bool (u && v)):=by
 unfold gChain
 rw [h1,h2]
 simp only [Option.bind_some,h3]
 cases u with
 | true=>simp only [h4,Option.bind_some,h5,Bool.true_and]
 | false=>rfl
theorem zjR {r:List Int} (h:r.length < 32):zaT [dR r]=some ((led r).map .int):=by
 rw [zgZ]
 exact zU (ret (.list ((led r).map .int)) (zZ (zlj (a:=gLst (gB1N dListN (gConsA (gVar 0) gNilA))) (b:=gVar 0) (r:=r) rfl (.inr rfl) h)) (.mk rfl rfl))
noncomputable def goB (p:List (List Int)) (c:Int×Int):Bool:=(decide (0<=c.1 + c.2) && decide (c.1 + c.2 < (p.length:Int))) && decide (c.1∈p.getD (c.1 + c.2).toNat [])
theorem zi8 (p:List (List Int)) (c:Int×Int):zbo [dPl p,dC c]=some (.bool (goB p c)):=by
 rw [zi3]
 refine zU ?_
 refine zQ [some (dPl p),some (dC c),some (.int (c.1 + c.2))] rfl ?_
 refine ret (.bool (goB p c)) ?_ (.mk rfl rfl)
 refine zn7 (x:=decide (0<=c.1 + c.2) && decide (c.1 + c.2 < (p.length:Int))) ?_ fun h=>?_
 ·have e2:dLt (.int (c.1 + c.2)) (.int (((p.map dR).length:Nat):Int))=some (.bool (decide (c.1 + c.2 < (p.length:Int)))):=by
   rw [List.length_map]; rfl
  exact ziY rfl rfl rfl rfl e2
 ·rw [Bool.and_eq_true,decide_eq_true_eq,decide_eq_true_eq] at h
  exact zj rfl (zj rfl rfl (zok h.1 h.2)) zm4
theorem zdj:∀ (p:List (List Int)) (n:Nat),(∀ r∈p,r.length<=50)->(cnts n p).length<=50 * p.length
 | [],_,_=>by simp [cnts]
 | r :: p,n,h=>by
   have h1:=zdj p (n + 1) fun s hs=>h s (List.mem_cons_of_mem _ hs)
   have h2:=h r List.mem_cons_self
   rw [cnts,List.length_append,List.length_cons,rowC,List.length_map]
   omega
theorem zke (p:List (List Int)):enumS (p.map dR)=(p.zipIdx 1).map fun x=>.tuple [.int (x.2:Nat),dR x.1]:=by
 unfold enumS
 rw [List.zipIdx_map,List.map_map]
 rfl
theorem ziN (x:Int):∀ l:List Int,(ins x l).length<=l.length + 1
 | []=>by simp [ins]
 | y :: l=>by
   have:=ziN x l
   rw [ins]
   split
   ·simp
   ·split
    ·simp
    ·simp only [List.length_cons]; omega
theorem zkV:∀ l:List Int,(ss l).length<=l.length
 | []=>by simp [ss]
 | x :: l=>by
   have h1:=zkV l
   have h2:=ziN x (ss l)
   rw [ss,List.length_cons]; omega
theorem zf0 {r:List Int}:(led r).length<=2 * r.length:=by
 have h:((led r):List Int).length<=(r ++ r.map (· + 1)).length:=zkV _
 rw [List.length_append,List.length_map] at h
 omega
theorem zh4 {p:List (List Int)} (hl:p.length<=24) (h25:∀ r∈p,r.length<=25):zbb [dPl p]=some (((0,0) :: cnts 1 (p.map led)).map dC):=by
 rw [zhI]
 refine zU ?_
 refine zQ [some (dPl p),some (.list [dC (0,0)]),none,none] rfl ?_
 refine zdD (fun x:List Int×Nat=>PyData.tuple [.int (x.2:Nat),dR x.1]) (p.zipIdx 1) (fun i δ=>∃ a b,δ=[some (dPl p),some (.list (((0,0) :: cnts 1 ((p.take i).map led)).map dC)),a,b]) ?_ ⟨none,none,rfl⟩ ?_ ?_
 ·show some (enumS (p.map dR))=_
  rw [zke]
 ·rintro i ⟨r,n⟩ δ hi ⟨a,b,rfl⟩
  rw [List.getElem?_zipIdx] at hi
  cases er:p[i]? with
  | none=>rw [er] at hi; cases hi
  | some r'=>
    rw [er] at hi
    simp only [Option.map_some,Option.some.injEq,Prod.mk.injEq] at hi
    obtain ⟨rfl,rfl⟩:=hi
    have hil:=(List.getElem?_eq_some_iff.mp er).1
    have hr:=h25 r' (List.mem_of_getElem? er)
    have ht:p.take (i + 1)=p.take i ++ [r']:=by
     rw [List.take_add_one,er]; rfl
    have hln:(p.take i).length=i:=by rw [List.length_take]; omega
    have hll:(led r').length<=50:=by have:=zf0 (r:=r'); omega
    have hcl:(cnts 1 ((p.take i).map led)).length<=1200:=by
     have:=zdj ((p.take i).map led) 1 (fun s hs=>by
      obtain ⟨t,ht,rfl⟩:=List.mem_map.mp hs
      have:=zf0 (r:=t)
      have:=h25 t (List.mem_of_mem_take ht)
      omega)
     rw [List.length_map,hln] at this
     omega
    refine ⟨_,[some (dPl p),some (.list (((0,0) :: cnts 1 ((p.take (i + 1)).map led)).map dC)),some (.int ((1 + i:Nat):Int)),some (dR r')],rfl,?_,_,_,rfl⟩
    have hc:gComp (gItems (gLst (gCallN zaT 1 (gConsA (gVar 3) gNilA)))) [2] (gTupD (gConsA (gVar 0) (gConsA (g2 dSub (gVar 1) (gVar 0)) gNilA))) [some (dPl p),some (.list (((0,0) :: cnts 1 ((p.take i).map led)).map dC)),some (.int ((1 + i:Nat):Int)),some (dR r')]=some (((led r').map fun b=>(b,((1 + i:Nat):Int) - b)).map dC):=by
     refine zdq PyData.int dC (fun b=>(b,((1 + i:Nat):Int) - b)) (led r') ?_ (by omega) fun x _=>rfl
     have ec:gLst (gCallN zaT 1 (gConsA (gVar 3) gNilA)) [some (dPl p),some (.list (((0,0) :: cnts 1 ((p.take i).map led)).map dC)),some (.int ((1 + i:Nat):Int)),some (dR r')]=some (.list ((led r').map .int)):=zZ (za1 (zd rfl rfl) rfl (zjR (by omega)))
     unfold gItems
     rw [ec]
     rfl
    refine (zkZ rfl hc (by simp only [List.length_map,List.length_cons]; omega)).trans ?_
    have key:cnts 1 ((p.take (i + 1)).map led)=cnts 1 ((p.take i).map led) ++ rowC (1 + i) (led r'):=by
     rw [ht,List.map_append,show List.map led [r']=[led r'] from rfl,zcj,List.length_map,hln]
    simp only [key,List.map_cons,List.map_append,List.cons_append]
    rfl
 ·rintro δ' ⟨a,b,rfl⟩
  refine ret (.list (((0,0) :: cnts 1 (p.map led)).map dC)) ?_ (.mk rfl rfl)
  rw [List.length_zipIdx,List.take_length]
  rfl
noncomputable def endsL (p:List (List Int)):List (Int×Int):=((0,0) :: cnts 1 (p.map led)).filter fun c=> !goB p c
theorem zmZ {p:List (List Int)} (hl:p.length<=24) (h25:∀ r∈p,r.length<=25):zdo [dPl p]=some ((endsL p).map dC):=by
 rw [znG]
 have hcl:(cnts 1 (p.map led)).length<=1200:=by
  have:=zdj (p.map led) 1 (fun s hs=>by
   obtain ⟨t,ht,rfl⟩:=List.mem_map.mp hs
   have:=zf0 (r:=t)
   have:=h25 t ht
   omega)
  rw [List.length_map] at this
  omega
 have hc:gCompL (gItems (gLst (gCallN zbb 1 (gConsA (gVar 0) gNilA)))) 1 [0] (gName' 0) (gNot (gTru (gCall zbo 2 (gConsA (gVar 1) (gConsA (gVar 0) gNilA))))) (gVar 0) [some (dPl p)]=some (((((0,0) :: cnts 1 (p.map led)).filter fun c=> !goB p c).map id).map dC):=by
  refine zgE dC dC id (fun c=> !goB p c) ((0,0) :: cnts 1 (p.map led)) ?_ (by simp only [List.length_cons]; omega) (fun c _=>?_) fun c _ _=>rfl
  ·have ec:gLst (gCallN zbb 1 (gConsA (gVar 0) gNilA)) [some (dPl p)]=some (.list (((0,0) :: cnts 1 (p.map led)).map dC)):=zZ (za1 (zd rfl rfl) rfl (zh4 hl h25))
   unfold gItems
   rw [ec]
   rfl
  ·exact zdr (zmp (zq (zd rfl (zd rfl rfl)) rfl (zi8 p c)))
 rw [List.map_id] at hc
 exact zU (ret (.list ((endsL p).map dC)) (zZ hc) (.mk rfl rfl))
end MyLaw
namespace MyLaw
open PySem L2 Q1
theorem zgk {g:DS->Option D} {δ:DS} {d:D} (h:g δ=some d):gDrop g δ=some (.nx δ):=by unfold gDrop; rw [h]; rfl
theorem znZ {a:DS->Option D} {δ:DS} {i:Int} (h:a δ=some (.int i)):gB1 dAbs (gConsA a gNilA) δ=some (.int (i.natAbs:Nat)):=by
 unfold gB1; rw [zd h rfl]; show some (PyData.int (if i < 0 then -i else i))=_; rw [zfW]
theorem zkY (a b:Int) (hb:bt b<=4000):zG [.int a,.int b]=some (.int (Int.gcd a b:Nat)):=by
 rw [zci]
 refine zU ?_
 refine zQ [some (.int (a.natAbs:Nat)),some (.int b),none,none] (by simp only [gSet,gB1,gConsA,gVar,List.getElem?_cons_zero,Option.join_some,gNilA,Option.bind_some,dAbs,List.set_cons_zero]; rw [zfW]) ?_
 refine zQ [some (.int (a.natAbs:Nat)),some (.int (b.natAbs:Nat)),none,none] (by simp only [gSet,gB1,gConsA,gVar,List.getElem?_cons_succ,List.getElem?_cons_zero,Option.join_some,gNilA,Option.bind_some,dAbs,List.set_cons_succ,List.set_cons_zero]; rw [zfW]) ?_
 refine zfg (fun m δ=>∃ (x:Nat) (r p:Option D),δ=[some (.int (x:Nat)),some (.int (m:Nat)),r,p] /\ bt (m:Int)<=4000 /\ Nat.gcd x m=Int.gcd a b) (fun δ=>∃ (x:Nat) (r p:Option D),δ=[some (.int (x:Nat)),some (.int 0),r,p] /\ x=Int.gcd a b) b.natAbs ?_ ?_ ?_
 ·exact ⟨_,none,none,rfl,zkc (by simp) hb,rfl⟩
 ·rintro m δ ⟨x,r,p,rfl,hbm,hg⟩
  by_cases hm:m=0
  ·subst hm
   exact .inl ⟨by simp only [gB,g2,gVar,List.getElem?_cons_succ,List.getElem?_cons_zero,Option.join_some,gC,Option.bind_some,zkW]; rfl,x,r,p,rfl,by simpa using hg⟩
  ·have hlt:x % m < m:=Nat.mod_lt _ (by omega)
   have e:((x:Int) % (m:Int))=((x % m:Nat):Int):=by omega
   have hb':bt ((x % m:Nat):Int)<=4000:=zkc (by simp; omega) hbm
   refine .inr ⟨by simp only [gB,g2,gVar,List.getElem?_cons_succ,List.getElem?_cons_zero,Option.join_some,gC,Option.bind_some,zkW]; simp; omega,[some (.int m),some (.int ((x % m:Nat):Int)),some (.int ((x % m:Nat):Int)),p],x % m,?_,hlt,m,_,_,rfl,hb',?_⟩
   ·simp only [gSeq,gSet,g2,gVar,List.getElem?_cons_zero,Option.join_some,List.getElem?_cons_succ,Option.bind_some,List.set_cons_succ,List.set_cons_zero,gIf,gB,g1,gC,gCall,gConsA,gNilA,gSkip]
    rw [zcd (by omega),e]
    simp only [Option.bind_some,List.getElem?_cons_succ,List.getElem?_cons_zero,Option.join_some,List.set_cons_zero,List.set_cons_succ,dBits,zlL,List.length_cons,List.length_nil,Nat.reduceAdd,if_true,decide_eq_true_eq]
    have hb'':Builtin.Int.intBits ((x % m:Nat):Int)<=4000:=hb'
    rw [if_neg (by omega)]
   ·rw [<- hg,Nat.gcd_comm x m,Nat.gcd_rec m x,Nat.gcd_comm]
 ·rintro δ' ⟨x,r,p,rfl,h2⟩
  exact ret _ (by simp only [gVar,List.getElem?_cons_zero,Option.join_some]; rw [h2]) (.mk rfl rfl)
theorem zme (t b:Int) (hb0:b≠0) (hb:bt b<=4000):zfl [.int t,.int b]=some (dF (qmk t b)):=by
 rw [zny]
 refine zU ?_
 have hg:=zkY t b hb
 have hd0:dv t b≠0:=zov hb0
 have hgb:bt (dv t b)<=9000:=by
  refine zbF (zkc ?_ hb) (by decide)
  have:(Int.gcd t b) ∣ b.natAbs:=Nat.gcd_dvd_right _ _
  have:=Nat.le_of_dvd (by omega) this
  unfold dv; split <;> omega
 refine ziw (by simp only [gB,g2,gVar,List.getElem?_cons_succ,List.getElem?_cons_zero,Option.join_some,gC,Option.bind_some,znJ]; rw [decide_eq_false hb0]) ?_
 refine zQ [some (.int t),some (.int b),some (.int (Int.gcd t b:Nat))] (by simp only [gSet,gCall,gConsA,gVar,List.getElem?_cons_zero,Option.join_some,List.getElem?_cons_succ,gNilA,Option.bind_some,List.length_cons,List.length_nil,Nat.reduceAdd,if_true,List.set_cons_succ,List.set_cons_zero]; rw [hg]; rfl) ?_
 refine zQ [some (.int t),some (.int b),some (.int (dv t b))] ?_ ?_
 ·simp only [gIf,gB,g2,gVar,List.getElem?_cons_succ,List.getElem?_cons_zero,Option.join_some,gC,Option.bind_some,zlL,gSet,g1,dNeg,List.set_cons_succ,List.set_cons_zero,gSkip,decide_eq_true_eq]
  unfold dv
  split <;> rfl
 ·refine ret (dF (qmk t b)) ?_ (.mk rfl rfl)
  simp only [gTupD,gConsA,g2,gVar,List.getElem?_cons_zero,Option.join_some,List.getElem?_cons_succ,Option.bind_some,gNilA]
  rw [zkU hd0 hgb,zkU hd0 hgb]
  rfl
theorem zeJ (q:Fr2) (k:Nat) (h1:bt q.1<=1000) (h2:bt q.2<=1000) (hk:k<=1000):zbv [dF q,.int (k:Nat)]=some (dF (q.1 ^ k,q.2 ^ k)):=by
 rw [zmA]
 refine zU ?_
 refine zQ [some (dF q),some (.int (k:Nat)),some (.int 1),none,none] rfl (zQ [some (dF q),some (.int (k:Nat)),some (.int 1),some (.int 1),none] rfl ?_)
 refine zg3 0 k (fun i δ=>∃ z:Option D,δ=[some (dF q),some (.int (k:Nat)),some (.int (q.1 ^ i)),some (.int (q.2 ^ i)),z]) (zbH rfl (by omega)) ⟨none,by rw [Int.pow_zero,Int.pow_zero]⟩ ?_ ?_
 ·rintro i δ hi ⟨z,rfl⟩
  have hm:∀ {u:Int},bt u<=1000->IntMulOk (u ^ i) u:=fun h=>mulOk (zg2 h i) h (by have:1000 * i<=1000 * 1000:=Nat.mul_le_mul_left _ (by omega); omega)
  refine ⟨_,[some (dF q),some (.int (k:Nat)),some (.int (q.1 ^ (i + 1))),some (.int (q.2 ^ (i + 1))),some (.int (0 + (i:Int)))],rfl,?_,_,rfl⟩
  exact zY [some (dF q),some (.int (k:Nat)),some (.int (q.1 ^ (i + 1))),some (.int (q.2 ^ i)),some (.int (0 + (i:Int)))] (zR (zj rfl (zj rfl rfl (zaB q)) ((zbm (hm h1)).trans (by rw [Int.pow_succ])))) (zR (zj rfl (zj rfl rfl (zaA q)) ((zbm (hm h2)).trans (by rw [Int.pow_succ]))))
 ·rintro δ' ⟨z,rfl⟩
  exact ret (dF (q.1 ^ k,q.2 ^ k)) rfl (.mk rfl rfl)
theorem zaC (a b:Fr2) (m1:IntMulOk a.1 b.2) (m2:IntMulOk b.1 a.2):zD [dF a,dF b]=some (.bool (decide (a.1 * b.2 < b.1 * a.2))):=by
 rw [zmP]
 exact zU (ret _ (zj (zj (zj rfl rfl (zaB a)) (zj rfl rfl (zaA b)) (zbm m1)) (zj (zj rfl rfl (zaB b)) (zj rfl rfl (zaA a)) (zbm m2)) rfl) (.mk rfl rfl))
end MyLaw
namespace MyLaw
open PySem L2 Q1
noncomputable def pwF (P:Int->Nat->Bool):Nat->List Int->Nat->List (List Int)
 | 0,_,_=>[]
 | k + 1,th,n=>if th.filter (fun b=>P b n)=[] then [] else th.filter (fun b=>P b n) :: pwF P k (led (th.filter fun b=>P b n)) (n + 1)
theorem zer {P:Int->Nat->Bool} {th:List Int} {n:Nat} (h:th.filter (fun b=>P b n)=[]):∀ k,pwF P k th n=[]
 | 0=>rfl
 | k + 1=>by rw [pwF,if_pos h]
theorem zc3 {P:Int->Nat->Bool} {th:List Int} {n k:Nat} (h:th.filter (fun b=>P b n)≠[]):pwF P (k + 1) th n=th.filter (fun b=>P b n) :: pwF P k (led (th.filter fun b=>P b n)) (n + 1):=by rw [pwF,if_neg h]
theorem ziP {P P':Int->Nat->Bool} {e:Nat} (h1:∀ b n,n < e->P b n=P' b n) (h2:∀ b,P b e=false):∀ (m k:Nat) (th:List Int) (n:Nat),n + m=e->pwF P (m + k) th n=pwF P' m th n
 | 0,k,th,n,h=>by
   have:n=e:=by omega
   subst this
   exact zer (List.filter_eq_nil_iff.mpr fun b _=>by rw [h2 b]; simp) _
 | m + 1,k,th,n,h=>by
   have hf:th.filter (fun b=>P b n)=th.filter (fun b=>P' b n):=List.filter_congr fun b _=>h1 b n (by omega)
   rw [show m + 1 + k=m + k + 1 by omega]
   by_cases q:th.filter (fun b=>P b n)=[]
   ·rw [zer q,zer (hf ▸ q)]
   ·rw [zc3 q,zc3 (by rw [<- hf]; exact q),hf,ziP h1 h2 m k _ (n + 1) (by omega)]
noncomputable def Rw (th:List Int) (n:Nat):Prop:=Rise th /\ ∀ x∈th,0<=x /\ x<=(n:Int)
theorem Rw.flt {th:List Int} {n:Nat} (h:Rw th n) (p:Int->Bool):Rw (th.filter p) n:=⟨h.1.sublist List.filter_sublist,fun x hx=>h.2 x (List.filter_sublist.subset hx)⟩
theorem Rw.led {th:List Int} {n:Nat} (h:Rw th n):Rw (led th) (n + 1):=⟨zdc,fun x hx=>by
 rcases zf5.mp hx with q | q
 ·have:=h.2 x q; omega
 ·have:=h.2 _ q; omega⟩
theorem Rw.len {th:List Int} {n:Nat} (h:Rw th n):th.length<=n + 1:=by
 have:=zgT h.1 h.2
 omega
theorem rw0:Rw [0] 0:=⟨by unfold Rise; simp,by intro x hx; simp at hx; subst hx; decide⟩
theorem zlV {l:List Int} {p:Int->Bool}:(l.filter p).length<=l.length:=List.length_filter_le _ _
theorem zjo {r:List Int} (h:r.length < 32):zaT [.list (r.map .int)]=some ((led r).map .int):=by
 rw [zgZ]
 exact zU (ret (.list ((led r).map .int)) (zZ (zlj (a:=gLst (gB1N dListN (gConsA (gVar 0) gNilA))) (b:=gVar 0) (r:=r) rfl (.inl rfl) h)) (.mk rfl rfl))
theorem zka {f c:Addr} {q:Str} {G:List D->Option D} {n i:Nat} {g:DS->Option (List D)} {δ:DS} {ds:List D} {r:Option D} (h0:δ[i]?=some (some (codeF f c q))) (h:g δ=some ds) (hn:ds.length=n) (hG:G ds=r):gCallV f c q G n i g δ=r:=by
 unfold gCallV
 rw [if_pos h0,h,Option.bind_some,if_pos hn]
 exact hG
theorem zbi {g:DS->Option D} {δ:DS} {b:Bool} (h:g δ=some (.bool b)):gTru g δ=some b:=by unfold gTru; rw [h]; rfl
theorem zhW {c:DS->Option Bool} {b:DS->Option Res} {β:Type} {f:Res->Option β} {R:β->Prop} {δ:DS} (W:Nat->DS->Prop) (d:D) (m:Nat) (h:W m δ)
  (hs:∀ m δ,W m δ->c δ=some true /\ ((∃ δ' m',b δ=some (.nx δ') /\ m' < m /\ W m' δ') \/ b δ=some (.rt d))) (k:Gets (f (.rt d)) R):Gets ((gWhile c b δ).bind f) R:=by
 obtain ⟨r,e,hr⟩:=zfm W (fun _ r=>r=.rt d) m δ h fun m δ w=>by
  obtain ⟨h1,h2⟩:=hs m δ w
  rcases h2 with ⟨δ',m',a,b,c⟩ | h2
  ·exact .inr ⟨h1,.inl ⟨δ',m',.inl a,b,c,fun _ h=>h⟩⟩
  ·exact .inr ⟨h1,.inr (.inr ⟨d,h2,rfl⟩)⟩
 subst hr
 rw [e]
 exact k
theorem zfk {G:List D->Option D} {P:Int->Nat->Bool} (hG:∀ (b:Int) (n:Nat),0<=b->b<=(n:Int)->n<=24->G [.int b,.int (n:Nat)]=some (.bool (P b n))) (hz:∀ b,P b 24=false) (f c:Addr) (q:Str):
  zau f c q G [codeF f c q]=some (dPl (pwF P 25 [0] 0)):=by
 rw [zfH]
 refine zU ?_
 refine zQ [some (codeF f c q),some (.list []),none,none,none] rfl ?_
 refine zQ [some (codeF f c q),some (.list []),some (.list (([0]:List Int).map .int)),none,none] rfl ?_
 refine zhW (fun m δ=>∃ (pl:List (List Int)) (th:List Int) (x y:Option D),δ=[some (codeF f c q),some (.list (pl.map dR)),some (.list (th.map .int)),x,y] /\ pl.length + m=25 /\ 1<=m /\ Rw th pl.length /\ pl ++ pwF P m th pl.length=pwF P 25 [0] 0)
  (dPl (pwF P 25 [0] 0)) 25 ⟨[],[0],none,none,rfl,rfl,by decide,rw0,rfl⟩ ?_ (.mk rfl rfl)
 rintro m δ ⟨pl,th,x,y,rfl,hm,hm1,hw,hp⟩
 refine ⟨rfl,?_⟩
 have hlen:=hw.len
 have e1:gB1 dLen (gConsA (gVar 1) gNilA) [some (codeF f c q),some (.list (pl.map dR)),some (.list (th.map .int)),x,y]=some (.int (pl.length:Nat)):=by
  show some (PyData.int (((pl.map dR).length:Nat):Int))=_
  rw [List.length_map]
 have e2:gCompL (gItems (gVar 2)) 1 [0,3] (gName' 0) (gTru (gCallV f c q G 2 1 (gConsA (gVar 0) (gConsA (gVar 2) gNilA)))) (gVar 0) [some (codeF f c q),some (.list (pl.map dR)),some (.list (th.map .int)),some (.int (pl.length:Nat)),y]=some ((th.filter fun b=>P b pl.length).map .int):=by
  refine (zgE PyData.int PyData.int (fun x=>x) (fun b=>P b pl.length) th rfl (by omega) (fun b hb=>?_) fun b _ _=>rfl).trans (by rw [List.map_id'])
  have:=hw.2 b hb
  exact zbi (zka rfl (zd rfl (zd rfl rfl)) rfl (hG b pl.length this.1 this.2 (by omega)))
 have hf:=zlV (l:=th) (p:=fun b=>P b pl.length)
 have e3:gB (g2 dEq (gB1 dLen (gConsA (gVar 4) gNilA)) (gC (.int 0))) [some (codeF f c q),some (.list (pl.map dR)),some (.list (th.map .int)),some (.int (pl.length:Nat)),some (.list ((th.filter fun b=>P b pl.length).map .int))]=some (decide (th.filter (fun b=>P b pl.length)=[])):=by
  refine zbE ?_
  show some (PyData.bool (decide (((((th.filter fun b=>P b pl.length).map PyData.int).length:Nat):Int)=0)))=_
  rw [List.length_map]
  congr 3
  rw [<- List.length_eq_zero_iff]
  simp
 by_cases hq:th.filter (fun b=>P b pl.length)=[]
 ·have hp2:pl=pwF P 25 [0] 0:=by rw [zer hq,List.append_nil] at hp; exact hp
  rw [<- hp2]
  refine .inr ?_
  ·refine zY _ (zR e1) (zY _ (zR (zZ e2)) ?_)
   exact zb5 (zgg true (e3.trans (by rw [decide_eq_true hq])) (fun _=>rfl) fun z=>nomatch z)
 ·have hn:pl.length≠24:=fun h=>hq (List.filter_eq_nil_iff.mpr fun b _=>by rw [h,hz b]; simp)
  obtain ⟨k,rfl⟩:∃ k,m=k + 1:=⟨m - 1,by omega⟩
  have e4:=zjo (r:=th.filter fun b=>P b pl.length) (by omega)
  refine .inl ⟨[some (codeF f c q),some (.list ((pl ++ [th.filter fun b=>P b pl.length]).map dR)),some (.list ((led (th.filter fun b=>P b pl.length)).map .int)),some (.int (pl.length:Nat)),some (.list ((th.filter fun b=>P b pl.length).map .int))],k,?_,by omega,⟨_,_,_,_,rfl,by rw [List.length_append,List.length_singleton]; omega,by omega,?_,?_⟩⟩
  ·refine zY _ (zR e1) (zY _ (zR (zZ e2)) (zY [some (codeF f c q),some (.list (pl.map dR)),some (.list (th.map .int)),some (.int (pl.length:Nat)),some (.list ((th.filter fun b=>P b pl.length).map .int))] (zcV (e3.trans (by rw [decide_eq_false hq]))) (zY [some (codeF f c q),some (.list (pl.map dR)),some (.list (th.map .int)),some (.int (pl.length:Nat)),some (.list ((th.filter fun b=>P b pl.length).map .int))] (zcV (zbE (b:=false) ?_)) (zY _ (zi7 (ds:=pl.map dR) (d:=dR (th.filter fun b=>P b pl.length)) rfl rfl (by rw [List.length_map]; omega)) ?_))))
   ·show some (PyData.bool (decide ((pl.length:Int)=24)))=_
    rw [decide_eq_false (by omega)]
   ·refine (zR (zZ (za1 (zd rfl rfl) rfl e4))).trans ?_
    rw [List.map_append]
    rfl
  ·rw [List.length_append,List.length_singleton]
   exact (hw.flt _).led
  ·rw [List.length_append,List.length_singleton,List.append_assoc,List.singleton_append,<- zc3 hq]
   exact hp
theorem zmk:zdC [.bool true]=some .none:=by
 rw [zmC]; rfl
end MyLaw
namespace MyLaw
open PySem L2 Q1
theorem ix_l {l:List Int} {k:Nat} {x:Int} (h:l[k]?=some x):dIx (.list (l.map .int)) (.int (0 + (k:Int)))=some (.int x):=by
 rw [Int.zero_add]
 exact zba (by rw [List.getElem?_map,h]; rfl)
theorem zeP {l:List Int} {k:Nat} {d:Int} (h:k < l.length):l[k]?=some (l.getD k d):=by
 rw [List.getD_eq_getElem?_getD,List.getElem?_eq_getElem h]; rfl
theorem zdN (c:Int) (bs:List Int) (hb:∀ b∈bs,0 < b /\ b<=10 ^ 30) (hl:bs.length<=100):Gets (z5 [.int c,.list (bs.map .int)]) fun ds=>∃ l:List Int,ds=l.map .int /\ l.length=bs.length /\ ∀ (i:Nat) (b x:Int),bs[i]?=some b->l[i]?=some x->0<=x /\ x < b:=by
 rw [zen]
 have p18:dPow (.int 10) (.int 18)=some (.int (10 ^ 18)):=zmU (k:=18) (by decide) (by decide)
 have hc:gB (gChain dLt dLt (g1 dNeg (g2 dPow (gC (.int (10))) (gC (.int (18))))) (gVar 0) (g2 dPow (gC (.int (10))) (gC (.int (18))))) [some (.int c),some (.list (bs.map .int)),none,none,none]=some (decide (-(10 ^ 18:Int) < c) && decide (c < (10 ^ 18:Int))):=
  zbE (ziY (x:=.int (-(10 ^ 18:Int))) (by unfold g1; rw [show g2 dPow (gC (.int (10))) (gC (.int (18))) _=_ from zj rfl rfl p18]; rfl) rfl rfl (zj rfl rfl p18) rfl)
 have eln:∀ x y z:Option D,gB1 dLen (gConsA (gVar 1) gNilA) [some (.int c),some (.list (bs.map .int)),x,y,z]=some (.int (bs.length:Nat)):=fun x y z=>by
  show some (PyData.int (((bs.map PyData.int).length:Nat):Int))=_
  rw [List.length_map]
 refine zeo _ hc (fun _=>?_) fun _=>?_
 ·obtain ⟨_,e1,row,rfl,hrl,_⟩:=zgB c 1000003 bs.length (by decide) (by omega)
  rw [ziK]
  refine zQ [some (.int c),some (.list (bs.map .int)),some (.list (row.map .int)),none,none] (zR (zZ (za1 (zd rfl (zd rfl (zd (eln _ _ _) rfl))) rfl e1))) ?_
  have e2:gComp (gRange1 (gConsA (gB1 dLen (gConsA (gVar 1) gNilA)) gNilA)) [2,1] (g2 dMod (g2 dIx (gVar 1) (gVar 0)) (g2 dIx (gVar 2) (gVar 0))) [some (.int c),some (.list (bs.map .int)),some (.list (row.map .int)),none,none]=some (((List.range bs.length).map fun k=>row.getD k 0 % bs.getD k 1).map .int):=by
   refine zdq (fun k:Nat=>PyData.int (0 + (k:Int))) PyData.int (fun k=>row.getD k 0 % bs.getD k 1) (List.range bs.length) (zbH (zd (eln _ _ _) rfl) (by omega)) (by rw [List.length_range]; omega) fun k hk=>?_
   have hk:k < bs.length:=List.mem_range.mp hk
   have hbk:=hb (bs.getD k 1) (List.mem_of_getElem? (zeP hk))
   exact zj (zj rfl rfl (ix_l (zeP (d:=0) (by omega)))) (zj rfl rfl (ix_l (zeP (d:=1) hk))) (zcd hbk.1)
  refine zeS _ (zZ e2) (.mk rfl ⟨_,rfl,by rw [List.length_map,List.length_range],fun i b x h1 h2=>?_⟩)
  have hi:i < bs.length:=(List.getElem?_eq_some_iff.mp h1).1
  rw [List.getElem?_map,List.getElem?_range hi] at h2
  have h3:=zeP (d:=1) hi
  rw [h1] at h3
  have hbk:=hb b (List.mem_of_getElem? h1)
  cases h2
  show 0<=row.getD i 0 % bs.getD i 1 /\ row.getD i 0 % bs.getD i 1 < b
  rw [<- Option.some.inj h3]
  exact ⟨Int.emod_nonneg _ (by omega),Int.emod_lt_of_pos _ hbk.1⟩
 ·rw [zgU]
  refine zQ [some (.int c),some (.list (bs.map .int)),none,some (.list []),none] rfl ?_
  refine zQ [some (.int (c / 2)),some (.list (bs.map .int)),none,some (.list []),none] (zR (zj rfl rfl (dd 2 (by decide) (by decide)))) ?_
  refine zdD PyData.int bs (fun i δ=>∃ (c':Int) (l:List Int) (z:Option D),δ=[some (.int c'),some (.list (bs.map .int)),none,some (.list (l.map .int)),z] /\ l.length=i /\ ∀ (j:Nat) (b x:Int),bs[j]?=some b->l[j]?=some x->0<=x /\ x < b) rfl ⟨c / 2,[],none,rfl,rfl,fun j b x _ h=>by simp at h⟩ ?_ ?_
  ·rintro i b δ hi ⟨c',l,z,rfl,hli,hx⟩
   have hbk:=hb b (List.mem_of_getElem? hi)
   have hib:=(List.getElem?_eq_some_iff.mp hi).1
   refine ⟨_,[some (.int (c' / b)),some (.list (bs.map .int)),none,some (.list ((l ++ [c' % b]).map .int)),some (.int b)],rfl,zY [some (.int c'),some (.list (bs.map .int)),none,some (.list ((l ++ [c' % b]).map .int)),some (.int b)] ((zi7 (d:=.int (c' % b)) rfl (zj rfl rfl (zcd hbk.1)) (by rw [List.length_map]; omega)).trans (by rw [List.map_append]; rfl)) (zR (zj rfl rfl (zjB hbk.1 (zbF (zal (m:=100) (by omega)) (by decide))))),c' / b,_,_,rfl,by rw [List.length_append,List.length_singleton,hli],fun j b' x h1 h2=>?_⟩
   by_cases hj:j < l.length
   ·rw [List.getElem?_append_left hj] at h2
    exact hx j b' x h1 h2
   ·have hj2:j < (l ++ [c' % b]).length:=(List.getElem?_eq_some_iff.mp h2).1
    rw [List.length_append,List.length_singleton] at hj2
    have:j=i:=by omega
    subst this
    rw [List.getElem?_append_right (by omega),show j - l.length=0 by omega] at h2
    cases h2
    rw [hi] at h1; cases h1
    exact ⟨Int.emod_nonneg _ (by omega),Int.emod_lt_of_pos _ hbk.1⟩
  ·rintro δ' ⟨c',l,z,rfl,hli,hx⟩
   exact ret (.list (l.map .int)) rfl (.mk rfl ⟨l,rfl,hli,hx⟩)
theorem zee (c:Int) (bs:List Int) (hb:∀ b∈bs,0 < b /\ b<=1000) (hl:bs.length<=100):Gets (z5 [.int c,.list (bs.map .int)]) fun ds=>∃ l:List Int,ds=l.map .int /\ l.length=bs.length /\ ∀ (i:Nat) (b x:Int),bs[i]?=some b->l[i]?=some x->0<=x /\ x < b:=
 zdN c bs (fun b h=>⟨(hb b h).1,Int.le_trans (hb b h).2 (by decide)⟩) hl
end MyLaw
namespace MyLaw
open PySem L2 Q1
noncomputable def Tf (a c:Int):Nat->Nat->Int
 | 0,0=>1
 | 0,_ + 1=>0
 | n + 1,0=>Tf a c n 0 * c
 | n + 1,k + 1=>Tf a c n k * a + Tf a c n (k + 1) * c
noncomputable def Bn:Nat->Nat->Int
 | 0,0=>1
 | 0,_ + 1=>0
 | n + 1,0=>Bn n 0
 | n + 1,k + 1=>Bn n k + Bn n (k + 1)
theorem zcN:∀ n k:Nat,n < k->Bn n k=0
 | 0,k + 1,_=>rfl
 | n + 1,k + 1,h=>by rw [Bn,zcN n k (by omega),zcN n (k + 1) (by omega)]; rfl
theorem zfM (a c:Int):∀ n k:Nat,n < k->Tf a c n k=0
 | 0,k + 1,_=>rfl
 | n + 1,k + 1,h=>by rw [Tf,zfM a c n k (by omega),zfM a c n (k + 1) (by omega),Int.zero_mul,Int.zero_mul]; rfl
theorem zhy (a c:Int):∀ n k:Nat,k<=n->Tf a c n k=Bn n k * (a ^ k * c ^ (n - k))
 | 0,0,_=>by simp [Tf,Bn]
 | n + 1,0,_=>by
   rw [Tf,zhy a c n 0 (Nat.zero_le _),Bn,Nat.sub_zero,Nat.sub_zero,Int.pow_zero,Int.one_mul,Int.one_mul,Int.pow_succ,Int.mul_assoc]
 | n + 1,k + 1,h=>by
   by_cases e:k=n
   ·subst e
    rw [Tf,zhy a c k k (Nat.le_refl _),zfM a c k (k + 1) (by omega),Bn,zcN k (k + 1) (by omega),Nat.sub_self,Nat.sub_self,Int.zero_mul,Int.add_zero,Int.add_zero,Int.pow_zero,Int.mul_one,Int.mul_one,Int.pow_succ,Int.mul_assoc]
   ·rw [Tf,zhy a c n k (by omega),zhy a c n (k + 1) (by omega),Bn,show n + 1 - (k + 1)=n - k by omega,show n - k=n - (k + 1) + 1 by omega,Int.pow_succ,Int.pow_succ]
    grind
theorem zfO:∀ {n k:Nat},k<=n->0 < Bn n k
 | 0,0,_=>by simp [Bn]
 | n + 1,0,_=>by rw [Bn]; exact zfO (Nat.zero_le _)
 | n + 1,k + 1,h=>by
   have h1:=zfO (n:=n) (k:=k) (by omega)
   rw [Bn]
   by_cases e:k + 1<=n
   ·have:=zfO (n:=n) (k:=k + 1) e; omega
   ·rw [zcN n (k + 1) (by omega)]; omega
noncomputable def Sg (f:Nat->Int):Nat->Int
 | 0=>0
 | n + 1=>Sg f n + f n
theorem zeA (f:Nat->Int):∀ n,sumI ((List.range n).map f)=Sg f n
 | 0=>rfl
 | n + 1=>by rw [List.range_succ,List.map_append,zc1,zeA f n,Sg]; show _ + (f n + 0)=_; rw [Int.add_zero]
theorem zev (f:Nat->Int):∀ n,Sg f (n + 1)=f 0 + Sg (fun k=>f (k + 1)) n
 | 0=>by show 0 + f 0=f 0 + 0; omega
 | n + 1=>by rw [Sg,zev f n,Sg,Int.add_assoc]
theorem zlg (f g:Nat->Int) (a c:Int):∀ n,Sg (fun k=>f k * a + g k * c) n=Sg f n * a + Sg g n * c
 | 0=>by show (0:Int)=0 * a + 0 * c; rw [Int.zero_mul,Int.zero_mul]; rfl
 | n + 1=>by rw [Sg,zlg f g a c n,Sg,Sg,Int.add_mul,Int.add_mul]; omega
theorem zkR (a c:Int):∀ n,Sg (Tf a c n) (n + 1)=(a + c) ^ n
 | 0=>by simp [Sg,Tf]
 | n + 1=>by
   have e:(fun k=>Tf a c (n + 1) (k + 1))=fun k=>Tf a c n k * a + Tf a c n (k + 1) * c:=rfl
   have h2:Sg (fun k=>Tf a c n (k + 1)) (n + 1)=Sg (Tf a c n) (n + 1) - Tf a c n 0:=by
    have:=zev (Tf a c n) (n + 1)
    rw [show Sg (Tf a c n) (n + 1 + 1)=Sg (Tf a c n) (n + 1) + Tf a c n (n + 1) from rfl,zfM a c n (n + 1) (by omega)] at this
    omega
   rw [zev,e,zlg,h2,zkR a c n,Int.pow_succ,Int.mul_add,Int.sub_mul,Tf]
   omega
theorem zhA {a c:Int} (ha:0<=a) (hc:0<=c):∀ n k,0<=Tf a c n k
 | 0,0=>by show (0:Int)<=1; decide
 | 0,_ + 1=>by show (0:Int)<=0; decide
 | n + 1,0=>by rw [Tf]; exact Int.mul_nonneg (zhA ha hc n 0) hc
 | n + 1,k + 1=>by rw [Tf]; exact Int.add_nonneg (Int.mul_nonneg (zhA ha hc n k) ha) (Int.mul_nonneg (zhA ha hc n (k + 1)) hc)
theorem zmb {f:Nat->Int} (h:∀ k,0<=f k):∀ n,0<=Sg f n
 | 0=>Int.le_refl _
 | n + 1=>by rw [Sg]; exact Int.add_nonneg (zmb h n) (h n)
theorem zin {f:Nat->Int} (h:∀ k,0<=f k) {m n:Nat} (e:m<=n):Sg f m<=Sg f n:=by
 induction n with
 | zero=>rw [Nat.le_zero.mp e]; exact Int.le_refl _
 | succ n ih=>
   by_cases q:m=n + 1
   ·rw [q]; exact Int.le_refl _
   ·have:=ih (by omega)
    have:=h n
    rw [Sg]; omega
theorem zoh {a c:Int} (ha:0<=a) (hc:0<=c) (n k:Nat):Tf a c n k<=(a + c) ^ n:=by
 have nn:=zhA ha hc n
 by_cases h:n < k
 ·rw [zfM a c n k h]
  exact Int.pow_nonneg (by omega)
 ·have h1:Sg (Tf a c n) (k + 1)<=Sg (Tf a c n) (n + 1):=zin nn (by omega)
  rw [zkR,Sg] at h1
  have:=zmb nn k
  omega
theorem zox {a c:Int} (ha:0<=a) (hc:0<=c) (n:Nat) {k:Nat} (h:k<=n + 1):Sg (Tf a c n) k<=(a + c) ^ n:=by
 rw [<- zkR]; exact zin (zhA ha hc n) h
theorem zoy (n k:Nat):Bn n k<=2 ^ n:=by
 by_cases h:k<=n
 ·have h1:=zoh (a:=1) (c:=1) (by decide) (by decide) n k
  rw [zhy 1 1 n k h,Int.one_pow,Int.one_pow,Int.mul_one,Int.mul_one] at h1
  exact h1
 ·rw [zcN n k (by omega)]; exact Int.pow_nonneg (by decide)
end MyLaw
namespace MyLaw
open PySem L2 Q1
theorem zdS {gi:DS->Option (List D)} {t:D->DS->Option DS} {b:DS->Option Res} {δ:DS} {ds:List D} {r:Option Res} (h1:gi δ=some ds) (h2:forD t b ds δ=r):gFor gi t b δ=r:=by unfold gFor; rw [h1]; exact h2
structure Sh (a b:Int):Prop where
 lo:0 < a
 hi:a < b
 sz:b < 2 ^ 70
theorem Sh.bt1 {a b:Int} (h:Sh a b):bt a<=70:=zal (by have:=h.lo; have:=h.hi; have:=h.sz; omega)
theorem Sh.bt2 {a b:Int} (h:Sh a b):bt b<=70:=zal (by have:=h.lo; have:=h.hi; have:=h.sz; omega)
theorem Sh.bt3 {a b:Int} (h:Sh a b):bt (b - a)<=70:=zal (by have:=h.lo; have:=h.hi; have:=h.sz; omega)
theorem Sh.pw {a b:Int} (h:Sh a b) {n:Nat} (hn:n<=24) {x:Int} (h0:0<=x) (h1:x<=b ^ n):bt x<=2000:=by
 have h2:=zg2 h.bt2 n
 refine zkc (y:=b ^ n) (by omega) (zbF h2 ?_)
 have:70 * n<=70 * 24:=Nat.mul_le_mul_left _ hn
 omega
theorem Sh.ac {a b:Int}:a + (b - a)=b:=by omega
theorem Sh.T0 {a b:Int} (h:Sh a b) (n k:Nat):0<=Tf a (b - a) n k:=zhA (by have:=h.lo; omega) (by have:=h.hi; omega) n k
noncomputable def rowT (a b:Int) (n:Nat):List Int:=(List.range (n + 1)).map (Tf a (b - a) n)
theorem zj4 {a b:Int} {n:Nat}:sumI (rowT a b n)=b ^ n:=by
 unfold rowT
 rw [zeA,zkR,Sh.ac]
theorem znr {g:DS->Option D} {δ:DS} {l:List Int} (h:g δ=some (.list (l.map .int))):gB1 dSum (gConsA g gNilA) δ=some (.int (sumI l)):=by
 refine zmd (zd h rfl) ?_
 show (intsD (l.map .int)).map _=_
 rw [zdB]; rfl
end MyLaw
namespace MyLaw
open PySem L2 Q1
theorem zjU {g:DS->Option D} {δ:DS} {d:D} (h:g δ=some d):gDrop g δ=some (.nx δ):=by unfold gDrop; rw [h]; rfl
noncomputable def upto (n:Nat):List Int:=(List.range n).map fun i:Nat=>(0 + (i:Int))
theorem zag {n:Nat} {x:Int}:x∈upto n↔0<=x /\ x < (n:Int):=by
 unfold upto
 rw [List.mem_map]
 constructor
 ·rintro ⟨i,h,rfl⟩
  have:=List.mem_range.mp h
  omega
 ·intro h
  exact ⟨x.toNat,List.mem_range.mpr (by omega),by omega⟩
theorem zfn (n:Nat):Rise (upto n):=by
 unfold Rise upto
 rw [List.pairwise_map]
 exact List.Pairwise.imp (fun h=>by omega) List.pairwise_lt_range
theorem zgP (n:Nat):(upto n).length=n:=by unfold upto; rw [List.length_map,List.length_range]
theorem zeb {n:Nat} (h:1<=n):led (upto n)=upto (n + 1):=znW (zfn _) fun z=>by
 have e:z∈led (upto n)↔z∈upto n ++ (upto n).map (· + 1):=zgD
 rw [<- e,zf5,zag,zag,zag]
 omega
theorem ziZ {n:Nat} (h:1<=n):upto n≠[]:=fun e=>by
 have:=zgP n
 rw [e] at this
 simp at this
 omega
theorem zim:∀ (k n:Nat),pwF (fun _ _=>true) k (upto (n + 1)) n=(List.range' n k).map fun i=>upto (i + 1)
 | 0,n=>rfl
 | k + 1,n=>by
   have hf:(upto (n + 1)).filter (fun _=>true)=upto (n + 1):=List.filter_eq_self.mpr fun _ _=>rfl
   rw [zc3 (by rw [hf]; exact ziZ (by omega)),hf,zeb (by omega),zim k (n + 1)]
   rfl
theorem ziT {d:Nat} (h4:1<=d) (h5:d<=24):zbQ [.int (d:Nat)]=some (dPl ((List.range d).map fun i=>upto (i + 1))):=by
 rw [ziH]
 refine zU ?_
 refine zQ _ (zjU (zq (zd (zgF rfl rfl (show some (PyData.bool (decide ((1:Int)<=(d:Int))))=_ by rw [decide_eq_true (by omega)]) rfl (show some (PyData.bool (decide ((d:Int)<=24)))=_ by rw [decide_eq_true (by omega)])) rfl) rfl zmk)) ?_
 refine ret _ ?_ (.mk rfl rfl)
 unfold gPW
 show (some [(d:Int)]).bind _=_
 rw [Option.bind_some,List.range_eq_range',<- zim d 0,<- ziP (P:=fun _ n=>decide ((n:Int) < (d:Int))) (P':=fun _ _=>true) (e:=d) (fun b n hn=>decide_eq_true (by omega)) (fun b=>decide_eq_false (by omega)) d (25 - d) _ 0 (by omega),show d + (25 - d)=25 by omega]
 exact zlF fun f c=>zfk (P:=fun _ n=>decide ((n:Int) < (d:Int))) (fun b n _ _ _=>rfl) (fun b=>decide_eq_false (by omega)) f c _
end MyLaw
namespace MyLaw
open PySem L2 Q1
theorem cutA (l:List D) (k:Nat):cutD l none (some (k:Int))=l.take k:=by
 unfold cutD
 rw [HT.zjs,show ∀ n d,HT.sIx n d none=d from fun _ _=>rfl]
 simp
theorem cutB (l:List D) (k:Nat):cutD l (some (k:Int)) none=l.drop k:=by
 unfold cutD
 rw [HT.zjs,show ∀ n d,HT.sIx n d none=d from fun _ _=>rfl]
 by_cases h:k<=l.length
 ·rw [Nat.min_eq_left h,List.take_of_length_le (by rw [List.length_drop]; omega)]
 ·rw [Nat.min_eq_right (by omega),List.drop_eq_nil_of_le (Nat.le_refl _),List.drop_eq_nil_of_le (by omega),List.take_nil]
noncomputable def fullP (n:Nat):List (List Int):=(List.range n).map fun i=>upto (i + 1)
theorem zet (n:Nat):(fullP n).length=n:=by unfold fullP; rw [List.length_map,List.length_range]
theorem zgV {n k:Nat} (h:k < n):(fullP n).getD k []=upto (k + 1):=by
 unfold fullP
 rw [List.getD_eq_getElem?_getD,List.getElem?_map,List.getElem?_range h]; rfl
theorem zfU {n:Nat} (h:n<=24):∀ r∈fullP n,r.length<=25:=fun r hr=>by
 obtain ⟨i,hi,rfl⟩:=List.mem_map.mp hr
 have:=List.mem_range.mp hi
 rw [zgP]; omega
theorem zg1:∀ (m k:Nat),Chn (upto k) ((List.range' k m).map fun i=>upto (i + 1)) \/ k=0
 | 0,k=>.inl trivial
 | m + 1,k=>by
   by_cases hk:k=0
   ·exact .inr hk
   ·refine .inl ⟨⟨ziZ (by omega),zfn _,fun x hx=>?_⟩,?_⟩
    ·rw [zeb (by omega)]; exact hx
    ·rcases zg1 m (k + 1) with h | h
     ·exact h
     ·omega
theorem zlP {n:Nat} (h:1<=n):Pl (fullP n):=by
 obtain ⟨m,rfl⟩:∃ m,n=m + 1:=⟨n - 1,by omega⟩
 refine ⟨(List.range' 1 m).map fun i=>upto (i + 1),?_,(zg1 m 1).resolve_right (by omega)⟩
 unfold fullP
 rw [List.range_eq_range',List.range'_succ,List.map_cons]
 rfl
theorem zis {n:Nat}:∀ (m:Nat),m<=n->∀ k:Nat,WW A0 (fullP n) m (k:Int)=Bn m k
 | 0,_,k=>by
   rw [WW_0]
   cases k with
   | zero=>rfl
   | succ k=>show (if ((k + 1:Nat):Int)=0 then (1:Int) else 0)=0; rw [if_neg (by omega)]
 | m + 1,h,k=>by
   rw [ziU,zgV (by omega)]
   unfold lv
   have ih:=zis (n:=n) m (by omega)
   cases k with
   | zero=>
     rw [if_neg (by rw [zag]; omega),if_pos (by rw [zag]; omega),Int.zero_add,Bn]
     exact ih 0
   | succ k=>
     have e:(((k + 1:Nat):Int) - 1)=(k:Int):=by omega
     rw [e,ih k,ih (k + 1),Bn]
     by_cases h1:k<=m
     ·rw [if_pos (by rw [zag]; omega)]
      by_cases h2:k + 1<=m
      ·rw [if_pos (by rw [zag]; omega)]
      ·rw [if_neg (by rw [zag]; omega),zcN m (k + 1) (by omega)]
     ·rw [if_neg (by rw [zag]; omega),if_neg (by rw [zag]; omega),zcN m k (by omega),zcN m (k + 1) (by omega)]
theorem zfA {p:List (List Int)} {P:Int×Int->Bool}:∀ (q:List (List Int)) (n:Nat),(∀ k r b,q[k]?=some r->b∈r->P (b,((n + k:Nat):Int) - b)=false)->(cnts n q).filter P=[]
 | [],n,_=>rfl
 | r :: q,n,h=>by
   rw [cnts,List.filter_append,zfA (p:=p) q (n + 1) fun k s b e hb=>by have:=h (k + 1) s b (by simpa using e) hb; rw [show n + (k + 1)=n + 1 + k by omega] at this; exact this,List.append_nil]
   refine List.filter_eq_nil_iff.mpr fun c hc=>?_
   obtain ⟨b,hb,rfl⟩:=List.mem_map.mp hc
   have:=h 0 r b rfl hb
   rw [Nat.add_zero] at this
   rw [this]; simp
theorem ziQ {n:Nat} (h:1<=n):endsL (fullP n)=(List.range (n + 1)).map fun k:Nat=>((k:Int),((n:Int) - (k:Int))):=by
 obtain ⟨m,rfl⟩:∃ m,n=m + 1:=⟨n - 1,by omega⟩
 have hg:∀ (d:Nat) (b:Int),0<=b->b<=(d:Int)->goB (fullP (m + 1)) (b,(d:Int) - b)=decide (d < m + 1):=fun d b h0 h1=>by
  unfold goB
  simp only [zet]
  by_cases hd:d < m + 1
  ·rw [decide_eq_true (show (0:Int)<=b + ((d:Int) - b) by omega),decide_eq_true (show b + ((d:Int) - b) < ((m + 1:Nat):Int) by omega),show (b + ((d:Int) - b)).toNat=d by omega,zgV hd,decide_eq_true (by rw [zag]; omega),decide_eq_true hd]; rfl
  ·rw [decide_eq_false (show ¬ b + ((d:Int) - b) < ((m + 1:Nat):Int) by omega),Bool.and_false,Bool.false_and,decide_eq_false hd]
 have e1:(fullP (m + 1)).map led=((List.range m).map fun i=>upto (i + 2)) ++ [upto (m + 2)]:=by
  unfold fullP
  rw [List.map_map,List.range_succ,List.map_append]
  have:(led ∘ fun i=>upto (i + 1))=fun i=>upto (i + 2):=by funext i; exact zeb (by omega)
  rw [this]; rfl
 unfold endsL
 rw [e1,zcj,List.filter_cons_of_neg (by
  have:=hg 0 0 (by omega) (by omega)
  rw [show (((0:Nat):Int) - 0)=0 by omega] at this
  rw [this,decide_eq_true (by omega)]; simp),List.filter_append,zfA (p:=[]) ((List.range m).map fun i=>upto (i + 2)) 1 (fun k r b e hb=>?_),List.nil_append]
 ·rw [List.length_map,List.length_range]
  have e2:(rowC (1 + m) (upto (m + 2))).filter (fun c=> !goB (fullP (m + 1)) c)=rowC (1 + m) (upto (m + 2)):=List.filter_eq_self.mpr fun c hc=>by
   obtain ⟨b,hb,rfl⟩:=List.mem_map.mp hc
   rw [zag] at hb
   rw [hg (1 + m) b hb.1 (by omega),decide_eq_false (by omega)]; rfl
  rw [e2]
  unfold rowC upto
  rw [List.map_map]
  refine List.map_congr_left fun k _=>?_
  show ((0 + (k:Int)),(((1 + m:Nat):Int) - (0 + (k:Int))))=_
  rw [Int.zero_add,show ((1 + m:Nat):Int)=((m + 1:Nat):Int) by omega]
 ·rw [List.getElem?_map] at e
  have hk:k < m:=by
   cases q:(List.range m)[k]? with
   | none=>rw [q] at e; cases e
   | some x=>have:=(List.getElem?_eq_some_iff.mp q).1; rwa [List.length_range] at this
  rw [List.getElem?_range hk] at e
  cases e
  rw [zag] at hb
  rw [hg (1 + k) b hb.1 (by omega),decide_eq_true (by omega)]; rfl
theorem qmk1 (t:Int):qmk t 1=(t,1):=by
 have:dv t 1=1:=by unfold dv; simp
 unfold qmk
 rw [this,Int.fdiv_one]; rfl
theorem zkn {a b:Int} (h:Sh a b):zdk [dF (1,1),dF (a,b)]=some (dF (b - a,b)):=by
 rw [zmJ]
 have hp:zfy [dF (1,1),dF (-a,b)]=some (dF (b - a,b)):=by
  rw [znz]
  refine zU ?_
  have b1:bt 1<=70:=zal (by decide)
  have g:=zkY 1 b (zbF h.bt2 (by decide))
  have hg1:(Int.gcd 1 b:Nat)=1:=by simp
  rw [hg1] at g
  have f:=zme (b - a) 1 (by decide) (zbF b1 (by decide))
  rw [qmk1] at f
  refine zQ [some (dF (1,1)),some (dF (-a,b)),some (.int 1),none,none,none] (zR (zq (zd (zj rfl rfl (zaA _)) (zd (zj rfl rfl (zaA _)) rfl)) rfl g)) ?_
  have d1:∀ x:Int,dDiv (.int x) (.int 1)=some (.int x):=fun x=>by rw [dd 1 (by decide) (by decide),Int.ediv_one]
  refine zQ [some (dF (1,1)),some (dF (-a,b)),some (.int 1),some (.int 1),none,none] (zR (zj (zj rfl rfl (zaA _)) rfl (d1 _))) ?_
  refine zQ [some (dF (1,1)),some (dF (-a,b)),some (.int 1),some (.int 1),some (.int b),none] (zR (zj (zj rfl rfl (zaA _)) rfl (d1 _))) ?_
  have e1:g2 dAddV (g2 dMulI (g2 dIx (gVar 0) (gC (.int (0)))) (gVar 4)) (g2 dMulI (g2 dIx (gVar 1) (gC (.int (0)))) (gVar 3)) [some (dF (1,1)),some (dF (-a,b)),some (.int 1),some (.int 1),some (.int b),none]=some (.int (b - a)):=by
   refine (zj (zj (zj rfl rfl (zaB _)) rfl (zbm (mulOk b1 h.bt2))) (zj (zj rfl rfl (zaB _)) rfl (zbm (mulOk (znp h.bt1) b1))) rfl).trans ?_
   show some (PyData.int (1 * b + -a * 1))=_
   rw [Int.one_mul,Int.mul_one]; rfl
  refine zQ [some (dF (1,1)),some (dF (-a,b)),some (.int 1),some (.int 1),some (.int b),some (dF (b - a,1))] (zR (zq (zd e1 (zd rfl rfl)) rfl f)) ?_
  refine ret (dF (b - a,b)) ?_ (.mk rfl rfl)
  unfold gTupD
  have e2:g2 dMulI (g2 dMulI (gVar 3) (gVar 4)) (g2 dIx (gVar 5) (gC (.int (1)))) [some (dF (1,1)),some (dF (-a,b)),some (.int 1),some (.int 1),some (.int b),some (dF (b - a,1))]=some (.int b):=by
   refine (zj (zj rfl rfl (zbm (mulOk b1 h.bt2))) (zj rfl rfl (zaA _)) (zbm (mulOk (m:=140) (zbF (zlm b1 h.bt2) (by decide)) b1))).trans ?_
   rw [Int.one_mul,Int.mul_one]
  rw [zd (zj rfl rfl (zaB _)) (zd e2 rfl)]
  rfl
 refine zU (ret _ ?_ (.mk rfl rfl))
 refine zq (zd rfl (zd (x:=dF (-a,b)) ?_ rfl)) rfl hp
 unfold gTupD
 rw [zd (x:=PyData.int (-a)) (by unfold g1; rw [show g2 dIx (gVar 1) (gC (.int (0))) [some (dF (1,1)),some (dF (a,b))]=_ from zj rfl rfl (zaB _)]; rfl) (zd (zj rfl rfl (zaA _)) rfl)]
 rfl
theorem zlr {a b:Int} (h:Sh a b) {k g:Nat} (hk:k<=24) (hg:g<=24):Gets (zcL [dC ((k:Int),(g:Int)),dF (a,b)]) fun d=>∃ e:Int,d=dF (a ^ k * (b - a) ^ g,e):=by
 rw [zlY]
 have p1:=zeJ (a,b) k (zbF h.bt1 (by decide)) (zbF h.bt2 (by decide)) (by omega)
 have p2:=zeJ (b - a,b) g (zbF h.bt3 (by decide)) (zbF h.bt2 (by decide)) (by omega)
 have pb:∀ {x:Int} {j:Nat},bt x<=70->j<=24->bt (x ^ j)<=2000:=fun {x j} h0 h1=>zbF (zg2 h0 j) (by have:70 * j<=70 * 24:=Nat.mul_le_mul_left _ h1; omega)
 refine zQ [some (dC ((k:Int),(g:Int))),some (dF (a,b)),some (dF (a ^ k,b ^ k)),none] (zR (zq (zd rfl (zd (zj rfl rfl (zaB _)) rfl)) rfl p1)) ?_
 refine zQ [some (dC ((k:Int),(g:Int))),some (dF (a,b)),some (dF (a ^ k,b ^ k)),some (dF ((b - a) ^ g,b ^ g))] (zR (zq (zd (zq (zd rfl (zd rfl rfl)) rfl (zkn h)) (zd (zj rfl rfl (zaA _)) rfl)) rfl p2)) ?_
 refine ret (dF (a ^ k * (b - a) ^ g,b ^ k * b ^ g)) ?_ (.mk rfl ⟨_,rfl⟩)
 unfold gTupD
 rw [zd (zj (zj rfl rfl (zaB _)) (zj rfl rfl (zaB _)) (zbm (mulOk (pb h.bt1 hk) (pb h.bt3 hg)))) (zd (zj (zj rfl rfl (zaA _)) (zj rfl rfl (zaA _)) (zbm (mulOk (pb h.bt2 hk) (pb h.bt2 hg)))) rfl)]
 rfl
theorem zk4 {a b:Int} (h:Sh a b) {n:Nat} (h1:1<=n) (hn:n<=24):zF [.int (n:Nat),dF (a,b)]=some ((rowT a b n).map .int):=by
 rw [zek]
 refine zU ?_
 obtain ⟨kds,ew,hd,hfn⟩:=zgv (p:=fullP n) (by rw [zet]; exact hn) (zfU hn) (0,0)
 refine zQ [some (.int (n:Nat)),some (dF (a,b)),some (dPl (fullP n)),none] (zR (zq (zd rfl rfl) rfl (ziT h1 hn))) ?_
 refine zQ [some (.int (n:Nat)),some (dF (a,b)),some (dPl (fullP n)),some (.dict kds)] (zR (zq (zd rfl (zd rfl rfl)) rfl ew)) ?_
 have ee:=zmZ (p:=fullP n) (by rw [zet]; exact hn) (zfU hn)
 rw [ziQ h1] at ee
 have ei:gItems (gLst (gCallN zdo 1 (gConsA (gVar 2) gNilA))) [some (.int (n:Nat)),some (dF (a,b)),some (dPl (fullP n)),some (.dict kds)]=some (((List.range (n + 1)).map fun k:Nat=>((k:Int),((n:Int) - (k:Int)))).map dC):=by
  have ec:gLst (gCallN zdo 1 (gConsA (gVar 2) gNilA)) [some (.int (n:Nat)),some (dF (a,b)),some (dPl (fullP n)),some (.dict kds)]=some (.list (((List.range (n + 1)).map fun k:Nat=>((k:Int),((n:Int) - (k:Int)))).map dC)):=zZ (za1 (zd rfl rfl) rfl ee)
  unfold gItems
  rw [ec]; rfl
 rw [List.map_map] at ei
 have ec:=zdq (dC ∘ fun k:Nat=>((k:Int),((n:Int) - (k:Int)))) PyData.int (Tf a (b - a) n) (List.range (n + 1)) (ix:=[3,1]) (ge:=g2 dMulI (gDget (gVar 1) (gVar 0)) (g2 dIx (gCall zcL 2 (gConsA (gVar 0) (gConsA (gVar 2) gNilA))) (gC (.int (0))))) ei (by rw [List.length_range]; omega) fun k hk=>by
  have hk:k<=n:=by have:=List.mem_range.mp hk; omega
  obtain ⟨_,eo,e,rfl⟩:=zlr h (k:=k) (g:=n - k) (by omega) (by omega)
  rw [show (((n - k:Nat):Int))=(n:Int) - (k:Int) by omega] at eo
  have hw:dLook kds [.inl (k:Int),.inl ((n:Int) - (k:Int))]=some (.int (Bn n k)):=by
   have hF:(cnts 0 (fullP n)).foldl stepF (beg0 (0,0)) (k:Int) ((n:Int) - (k:Int))=Bn n k:=by
    rw [zkM (zlP h1) (k:=n) (by omega),zis n (Nat.le_refl _) k]
   have h5:=hd (k:Int) ((n:Int) - (k:Int))
   rw [hF] at h5
   have h6:=zfO hk
   cases q:dLook kds [.inl (k:Int),.inl ((n:Int) - (k:Int))] with
   | none=>rw [q] at h5; have h7:=PyData.int.inj (show PyData.int 0=PyData.int (Bn n k) from h5); omega
   | some x=>rw [q] at h5; exact congrArg some h5
  have ht:=zhy a (b - a) n k hk
  refine (zj ((zmO (c:=((k:Int),((n:Int) - (k:Int)))) hfn rfl rfl).trans hw) (zj (zq (zd rfl (zd rfl rfl)) rfl eo) rfl (zaB _)) (zbm ?_)).trans ?_
  ·have pb:∀ {x:Int} {j:Nat},bt x<=70->j<=24->bt (x ^ j)<=2000:=fun {x j} h0 h1=>zbF (zg2 h0 j) (by have:70 * j<=70 * 24:=Nat.mul_le_mul_left _ h1; omega)
   have hB:=zoy n k
   have hB2:(2:Int) ^ n<=2 ^ 24:=by have:=Nat.pow_le_pow_right (n:=2) (by decide) hn; exact_mod_cast this
   exact mulOk (m:=30) (n:=4000) (zal (by have:=zfO hk; omega)) (zlm (pb h.bt1 (by omega)) (pb h.bt3 (by omega))) (by decide)
  ·rw [ht]
 exact ret _ (zZ ec) (.mk rfl rfl)
end MyLaw
namespace MyLaw
open PySem L2 Q1
structure Mo (c e:Int):Prop where
 lo:0<=c
 hi:c<=e
 one:1<=e
 sz:e < 2 ^ 70
theorem Mo.bt1 {c e:Int} (h:Mo c e):bt c<=70:=zal (by have:=h.lo; have:=h.hi; have:=h.sz; omega)
theorem Mo.bt2 {c e:Int} (h:Mo c e):bt e<=70:=zal (by have:=h.one; have:=h.sz; omega)
theorem Sh.S0 {a b:Int} (h:Sh a b) (n k:Nat):0<=Sg (Tf a (b - a) n) k:=zmb (h.T0 n) k
theorem Sh.S1 {a b:Int} (h:Sh a b) {n k:Nat} (hk:k<=n + 1):Sg (Tf a (b - a) n) k<=b ^ n:=by
 have:=zox (a:=a) (c:=b - a) (by have:=h.lo; omega) (by have:=h.hi; omega) n hk
 rw [Sh.ac] at this
 exact this
theorem Sh.B0 {a b:Int} (h:Sh a b) (n:Nat):0<=b ^ n:=Int.pow_nonneg (by have:=h.lo; have:=h.hi; omega)
theorem zcr {a b:Int} {n k:Nat} (h:k<=n + 1):sumI ((rowT a b n).take k)=Sg (Tf a (b - a) n) k:=by
 unfold rowT
 rw [<- List.map_take,List.take_range,Nat.min_eq_left h,zeA]
theorem zdt {a b:Int} {n k:Nat} (h:k<=n + 1):sumI ((rowT a b n).drop k)=b ^ n - Sg (Tf a (b - a) n) k:=by
 have h1:=zj4 (a:=a) (b:=b) (n:=n)
 rw [<- List.take_append_drop k (rowT a b n),zc1,zcr h] at h1
 omega
theorem ziJ {g:DS->Option (List D)} {δ:DS} {xs:List D} (h:g δ=some xs) (hl:xs.length<=100000):gTupD g δ=some (.tuple xs):=by
 unfold gTupD
 rw [h,Option.bind_some,if_pos hl]
theorem zjj {a b c e:Int} (h:Sh a b) (hm:Mo c e) {n:Nat} (hn:n<=24) {l:List Int} (h0:0<=sumI l) (h1:sumI l<=b ^ n):
  zaQ [.list (l.map .int),.int (n:Nat),dF (a,b),dF (c,e)]=some (.bool (!decide (c * b ^ n < sumI l * e))):=by
 rw [zl0]
 have p:=zeJ (a,b) n (zbF h.bt1 (by decide)) (zbF h.bt2 (by decide)) (by omega)
 have hs:=h.pw hn h0 h1
 have hb:=h.pw hn (h.B0 n) (Int.le_refl _)
 have u:=zaC (c,e) (sumI l,b ^ n) (mulOk hm.bt1 hb) (mulOk hs hm.bt2)
 refine zU (ret _ ?_ (.mk rfl rfl))
 unfold g1
 have ec:gCall zD 2 (gConsA (gVar 3) (gConsA (gTupD (gConsA (gB1 dSum (gConsA (gVar 0) gNilA)) (gConsA (g2 dIx (gCall zbv 2 (gConsA (gVar 2) (gConsA (gVar 1) gNilA))) (gC (.int (1)))) gNilA))) gNilA)) [some (.list (l.map .int)),some (.int (n:Nat)),some (dF (a,b)),some (dF (c,e))]=some (.bool (decide (c * b ^ n < sumI l * e))):=by
  exact zq (zd rfl (zd (x:=dF (sumI l,b ^ n)) (ziJ (zd (znr (l:=l) rfl) (zd (zj (zq (zd rfl (zd rfl rfl)) rfl p) rfl (zaA _)) rfl)) (by show 2<=100000; decide)) rfl)) rfl u
 rw [ec]; rfl
noncomputable def kp (a b c e a' b' c' e':Int) (n k:Nat):Bool:=decide ((b ^ n - Sg (Tf a (b - a) n) (k + 1)) * e<=c * b ^ n) && decide (Sg (Tf a' (b' - a') n) (k + 1) * e'<=c' * b' ^ n)
theorem zgX (x y:Int):(!decide (x < y))=decide (y<=x):=by
 by_cases h:x < y
 ·rw [decide_eq_true h,decide_eq_false (by omega)]; rfl
 ·rw [decide_eq_false h,decide_eq_true (by omega)]; rfl
theorem zh0 {a b:DS->Option Bool} {δ:DS} {x y:Bool} (h1:a δ=some x) (h2:b δ=some y):gAnd a b δ=some (x && y):=by
 unfold gAnd
 rw [h1,Option.bind_some]
 cases x with
 | true=>rw [if_pos rfl,h2]; rfl
 | false=>rfl
section
variable {a b c e a' b' c' e':Int}
end
end MyLaw
namespace MyLaw
open PySem L2 Q1
theorem zeu {α:Type} {t:D->DS->Option DS} {b:DS->Option Res} (enc:α->D) (W:DS->Prop) (f:α->Option D):∀ (xs:List α) {δ:DS},W δ->
  (∀ x∈xs,∀ δ,W δ->∃ δ1,t (enc x) δ=some δ1 /\ ((∃ d,f x=some d /\ b δ1=some (.rt d)) \/ (f x=none /\ ∃ δ',b δ1=some (.nx δ') /\ W δ')))->
  (∃ d,xs.findSome? f=some d /\ forD t b (xs.map enc) δ=some (.rt d)) \/ (xs.findSome? f=none /\ ∃ δ',forD t b (xs.map enc) δ=some (.nx δ') /\ W δ')
 | [],δ,h,_=>.inr ⟨rfl,δ,rfl,h⟩
 | x :: xs,δ,h,hs=>by
   obtain ⟨δ1,e1,h1⟩:=hs x List.mem_cons_self δ h
   rw [List.map_cons,forD,e1,Option.bind_some]
   rcases h1 with ⟨d,ef,eb⟩ | ⟨ef,δ',eb,hW⟩
   ·exact .inl ⟨d,by rw [List.findSome?_cons,ef],by rw [eb]; rfl⟩
   ·rw [eb,Option.bind_some,List.findSome?_cons,ef]
    exact zeu enc W f xs hW fun y hy=>hs y (List.mem_cons_of_mem _ hy)
section
variable {a b c e a' b' c' e':Int}
noncomputable def tp2 (k j:Nat):D:=.tuple [.int (1 + (k:Int)),.int (0 + (j:Int))]
noncomputable def oneF (a b c e a' b' c' e':Int) (k:Nat):Option D:=(List.range (k + 2)).findSome? fun j=>if kp a b c e a' b' c' e' (k + 1) j=true then some (tp2 k j) else none
noncomputable def resF (a b c e a' b' c' e':Int) (B:Nat):D:=((List.range B).findSome? (oneF a b c e a' b' c' e')).getD .none
theorem zm2 {g:DS->Option D} {δ:DS} {B:Nat} (h:g δ=some (.int (B:Nat))) (hB:B<=24):gRange2 (gConsA (gC (.int (1))) (gConsA (g2 dAddV g (gC (.int (1)))) gNilA)) δ=some ((List.range B).map fun k:Nat=>PyData.int (1 + (k:Int))):=by
 refine (zio (a:=1) (b:=(B:Int) + 1) (zd rfl (zd (zj h rfl rfl) rfl)) (by omega) (by omega) (by omega) (by omega)).trans ?_
 rw [show ((B:Int) + 1 - 1).toNat=B by omega]; rfl
theorem zm7 {gi:DS->Option (List D)} {t:D->DS->Option DS} {bd rest:DS->Option Res} {δ:DS} {xs:List Nat} {enc:Nat->D} {f:Nat->Option D} {W:DS->Prop} (hi:gi δ=some (xs.map enc)) (h:W δ)
  (hs:∀ x∈xs,∀ δ,W δ->∃ δ1,t (enc x) δ=some δ1 /\ ((∃ d,f x=some d /\ bd δ1=some (.rt d)) \/ (f x=none /\ ∃ δ',bd δ1=some (.nx δ') /\ W δ'))) (hr:∀ δ',rest δ'=some (.rt .none)):gSeq (gFor gi t bd) rest δ=some (.rt ((xs.findSome? f).getD .none)):=by
 rcases zeu (t:=t) (b:=bd) enc W f xs h hs with ⟨d,e1,e2⟩ | ⟨e1,δ',e2,_⟩
 ·rw [e1]; exact zb5 (zdS hi e2)
 ·rw [e1,zbB (zdS hi e2)]; exact hr δ'
theorem zbf (hm:Mo c e):zav [dF (c,e)]=some .none:=by
 rw [zfx]
 have u1:=zaC (c,e) (0,1) (mulOk (n:=70) hm.bt1 (zal (by decide))) (mulOk (m:=70) (zal (by decide)) hm.bt2)
 have u2:=zaC (1,1) (c,e) (mulOk (m:=70) (zal (by decide)) hm.bt2) (mulOk (n:=70) hm.bt1 (zal (by decide)))
 have:=hm.lo
 have:=hm.hi
 rw [show decide ((c,e).1 * (0,1).2 < ((0,1):Fr2).1 * (c,e).2)=false from decide_eq_false (by show ¬ c * 1 < 0 * e; omega)] at u1
 rw [show decide (((1,1):Fr2).1 * (c,e).2 < (c,e).1 * ((1,1):Fr2).2)=false from decide_eq_false (by show ¬ 1 * e < c * 1; omega)] at u2
 have k:gIf (gOr (gTru (gCall zD 2 (gConsA (gVar 0) (gConsA (gC (.tuple [(.int (0)),(.int (1))])) gNilA)))) (gTru (gCall zD 2 (gConsA (gC (.tuple [(.int (1)),(.int (1))])) (gConsA (gVar 0) gNilA))))) (fun _=>none) gSkip [some (dF (c,e))]=some (.nx [some (dF (c,e))]):=zcV (zop (zbi (zq (zd rfl (zd rfl rfl)) rfl u1)) (zbi (zq (zd rfl (zd rfl rfl)) rfl u2)))
 show Option.bind _ gOut=_
 rw [show zbh [some (dF (c,e))]=_ from k]
 rfl
theorem zbZ (h:Sh a b) (h':Sh a' b') (hl:a * b' < a' * b):zai [dF (a,b),dF (a',b')]=some .none:=by
 rw [zdM]
 have u1:=zaC (0,1) (a,b) (mulOk (m:=70) (zal (by decide)) h.bt2) (mulOk (n:=70) h.bt1 (zal (by decide)))
 have u2:=zaC (a,b) (a',b') (mulOk h.bt1 h'.bt2) (mulOk h'.bt1 h.bt2)
 have u3:=zaC (a',b') (1,1) (mulOk (n:=70) h'.bt1 (zal (by decide))) (mulOk (m:=70) (zal (by decide)) h'.bt2)
 have:=h.lo
 have:=h'.hi
 rw [show decide (((0,1):Fr2).1 * (a,b).2 < (a,b).1 * ((0,1):Fr2).2)=true from decide_eq_true (by show 0 * b < a * 1; omega)] at u1
 rw [show decide ((a,b).1 * (a',b').2 < (a',b').1 * (a,b).2)=true from decide_eq_true hl] at u2
 rw [show decide ((a',b').1 * ((1,1):Fr2).2 < ((1,1):Fr2).1 * (a',b').2)=true from decide_eq_true (by show a' * 1 < 1 * b'; omega)] at u3
 have k:gIf (gNot (gAnd (gTru (gCall zD 2 (gConsA (gC (.tuple [(.int (0)),(.int (1))])) (gConsA (gVar 0) gNilA)))) (gAnd (gTru (gCall zD 2 (gConsA (gVar 0) (gConsA (gVar 1) gNilA)))) (gTru (gCall zD 2 (gConsA (gVar 1) (gConsA (gC (.tuple [(.int (1)),(.int (1))])) gNilA))))))) (fun _=>none) gSkip [some (dF (a,b)),some (dF (a',b'))]=some (.nx [some (dF (a,b)),some (dF (a',b'))]):=
  zcV (zdr (x:=true) (zk0 (zbi (zq (zd rfl (zd rfl rfl)) rfl u1)) (zk0 (zbi (zq (zd rfl (zd rfl rfl)) rfl u2)) (zbi (zq (zd rfl (zd rfl rfl)) rfl u3)))))
 show Option.bind _ gOut=_
 rw [show zaS [some (dF (a,b)),some (dF (a',b'))]=_ from k]
 rfl
theorem zfK (h:Sh a b) (hm:Mo c e) (h':Sh a' b') (hm':Mo c' e') (hl:a * b' < a' * b) {B:Nat} (hB1:1<=B) (hB:B<=24):zbR [dF (a,b),dF (c,e),dF (a',b'),dF (c',e'),.int (B:Nat)]=some (resF a b c e a' b' c' e' B):=by
 rw [zcQ]
 refine zU ?_
 refine zQ [some (dF (a,b)),some (dF (c,e)),some (dF (a',b')),some (dF (c',e')),some (.int (B:Nat)),none,none,none,none,none] (zgk (zq (zd rfl (zd rfl rfl)) rfl (zbZ h h' hl))) ?_
 refine zQ _ (zgk (zq (zd rfl rfl) rfl (zbf hm))) ?_
 refine zQ _ (zgk (zq (zd rfl rfl) rfl (zbf hm'))) ?_
 refine ziw (zdr (x:=true) (zbE (zgF rfl rfl (show some (PyData.bool (decide ((1:Int)<=(B:Int))))=_ by rw [decide_eq_true (by omega)]) rfl (show some (PyData.bool (decide ((B:Int)<=24)))=_ by rw [decide_eq_true (by omega)])))) ?_
 refine ⟨_,congrArg (fun x=>Option.bind x gOut) (zm7 (W:=fun δ=>∃ x y z w v:Option D,δ=[some (dF (a,b)),some (dF (c,e)),some (dF (a',b')),some (dF (c',e')),some (.int (B:Nat)),x,y,z,w,v]) (f:=oneF a b c e a' b' c' e') (zm2 rfl hB) ⟨none,none,none,none,none,rfl⟩ (fun k hk δ hW=>?_) fun _=>rfl),rfl⟩
 obtain ⟨x,y,z,w,v,rfl⟩:=hW
 have hk:=List.mem_range.mp hk
 have t1:=zk4 h (n:=k + 1) (by omega) (by omega)
 have t2:=zk4 h' (n:=k + 1) (by omega) (by omega)
 rw [show ((k + 1:Nat):Int)=1 + (k:Int) by omega] at t1 t2
 refine ⟨_,rfl,?_⟩
 obtain ⟨R,eR⟩:∃ R:D,R=.list ((rowT a b (k + 1)).map .int):=⟨_,rfl⟩
 obtain ⟨R',eR'⟩:∃ R:D,R=.list ((rowT a' b' (k + 1)).map .int):=⟨_,rfl⟩
 have inner:=zeu (t:=gName' 8) (b:=gSeq (gSet 9 (gCall zaQ 4 (gConsA (gLst (gSlL (gVar 6) (gPart (g2 dAddV (gVar 8) (gC (.int (1))))) gNoPart)) (gConsA (gVar 5) (gConsA (gVar 0) (gConsA (gVar 1) gNilA))))))
  (gIf (gAnd (gTru (gVar 9)) (gTru (gCall zaQ 4 (gConsA (gLst (gSlL (gVar 7) gNoPart (gPart (g2 dAddV (gVar 8) (gC (.int (1))))))) (gConsA (gVar 5) (gConsA (gVar 2) (gConsA (gVar 3) gNilA))))))) (gRet (gTupD (gConsA (gVar 5) (gConsA (gVar 8) gNilA)))) gSkip)) (fun j:Nat=>PyData.int (0 + (j:Int))) (fun δ=>∃ w v:Option D,δ=[some (dF (a,b)),some (dF (c,e)),some (dF (a',b')),some (dF (c',e')),some (.int (B:Nat)),some (.int (1 + (k:Int))),some R,some R',w,v]) (fun j=>if kp a b c e a' b' c' e' (k + 1) j=true then some (tp2 k j) else none) (List.range (k + 2)) (δ:=[some (dF (a,b)),some (dF (c,e)),some (dF (a',b')),some (dF (c',e')),some (.int (B:Nat)),some (.int (1 + (k:Int))),some R,some R',w,v]) ⟨w,v,rfl⟩ (fun j hj δ hW=>by
  obtain ⟨w,v,rfl⟩:=hW
  have hj:=List.mem_range.mp hj
  have k1:=zjj h hm (n:=k + 1) (by omega) (l:=(rowT a b (k + 1)).drop (j + 1)) (by rw [zdt (by omega)]; have:=h.S1 (n:=k + 1) (k:=j + 1) (by omega); omega) (by rw [zdt (by omega)]; have:=h.S0 (k + 1) (j + 1); omega)
  have k2:=zjj h' hm' (n:=k + 1) (by omega) (l:=(rowT a' b' (k + 1)).take (j + 1)) (by rw [zcr (by omega)]; exact h'.S0 _ _) (by rw [zcr (by omega)]; exact h'.S1 (by omega))
  rw [zdt (by omega),show ((k + 1:Nat):Int)=1 + (k:Int) by omega,zgX] at k1
  rw [zcr (by omega),show ((k + 1:Nat):Int)=1 + (k:Int) by omega,zgX] at k2
  obtain ⟨q1,eq1⟩:∃ q,q=decide ((b ^ (k + 1) - Sg (Tf a (b - a) (k + 1)) (j + 1)) * e<=c * b ^ (k + 1)):=⟨_,rfl⟩
  obtain ⟨q2,eq2⟩:∃ q,q=decide (Sg (Tf a' (b' - a') (k + 1)) (j + 1) * e'<=c' * b' ^ (k + 1)):=⟨_,rfl⟩
  have ekp:kp a b c e a' b' c' e' (k + 1) j=(q1 && q2):=by rw [eq1,eq2]; rfl
  rw [<- eq1] at k1
  rw [<- eq2] at k2
  rw [ekp]
  have pj:∀ x:Option D,gPart (g2 dAddV (gVar 8) (gC (.int (1)))) [some (dF (a,b)),some (dF (c,e)),some (dF (a',b')),some (dF (c',e')),some (.int (B:Nat)),some (.int (1 + (k:Int))),some R,some R',some (.int (0 + (j:Int))),x]=some (some ((j + 1:Nat):Int)):=fun x=>(zmh (i:=0 + (j:Int) + 1) rfl).trans (by rw [show 0 + (j:Int) + 1=((j + 1:Nat):Int) by omega])
  have sl1:gLst (gSlL (gVar 6) (gPart (g2 dAddV (gVar 8) (gC (.int (1))))) gNoPart) [some (dF (a,b)),some (dF (c,e)),some (dF (a',b')),some (dF (c',e')),some (.int (B:Nat)),some (.int (1 + (k:Int))),some R,some R',some (.int (0 + (j:Int))),v]=some (.list (((rowT a b (k + 1)).drop (j + 1)).map .int)):=by
   refine zZ ?_
   unfold gSlL
   rw [pj,eR]
   show some (cutD ((rowT a b (k + 1)).map .int) (some ((j + 1:Nat):Int)) none)=_
   rw [cutB,List.map_drop]
  have sl2:∀ x:Option D,gLst (gSlL (gVar 7) gNoPart (gPart (g2 dAddV (gVar 8) (gC (.int (1)))))) [some (dF (a,b)),some (dF (c,e)),some (dF (a',b')),some (dF (c',e')),some (.int (B:Nat)),some (.int (1 + (k:Int))),some R,some R',some (.int (0 + (j:Int))),x]=some (.list (((rowT a' b' (k + 1)).take (j + 1)).map .int)):=fun x=>by
   refine zZ ?_
   unfold gSlL
   rw [pj,eR']
   show some (cutD ((rowT a' b' (k + 1)).map .int) none (some ((j + 1:Nat):Int)))=_
   rw [cutA,List.map_take]
  have s9:=zR (i:=9) (zq (G:=zaQ) (n:=4) (zd sl1 (zd (show gVar 5 [some (dF (a,b)),some (dF (c,e)),some (dF (a',b')),some (dF (c',e')),some (.int (B:Nat)),some (.int (1 + (k:Int))),some R,some R',some (.int (0 + (j:Int))),v]=_ from rfl) (zd (show gVar 0 [some (dF (a,b)),some (dF (c,e)),some (dF (a',b')),some (dF (c',e')),some (.int (B:Nat)),some (.int (1 + (k:Int))),some R,some R',some (.int (0 + (j:Int))),v]=_ from rfl) (zd (show gVar 1 [some (dF (a,b)),some (dF (c,e)),some (dF (a',b')),some (dF (c',e')),some (.int (B:Nat)),some (.int (1 + (k:Int))),some R,some R',some (.int (0 + (j:Int))),v]=_ from rfl) (show gNilA _=some [] from rfl))))) rfl k1)
  have cd:gAnd (gTru (gVar 9)) (gTru (gCall zaQ 4 (gConsA (gLst (gSlL (gVar 7) gNoPart (gPart (g2 dAddV (gVar 8) (gC (.int (1))))))) (gConsA (gVar 5) (gConsA (gVar 2) (gConsA (gVar 3) gNilA)))))) [some (dF (a,b)),some (dF (c,e)),some (dF (a',b')),some (dF (c',e')),some (.int (B:Nat)),some (.int (1 + (k:Int))),some R,some R',some (.int (0 + (j:Int))),some (.bool q1)]=some (q1 && q2):=
   zh0 (zbi rfl) (zbi (zq (zd (sl2 _) (zd rfl (zd rfl (zd rfl rfl)))) rfl k2))
  refine ⟨_,rfl,?_⟩
  cases hq:(q1 && q2) with
  | true=>exact .inl ⟨_,if_pos rfl,zY _ s9 (zgg true (cd.trans (by rw [hq])) (fun _=>rfl) fun z=>nomatch z)⟩
  | false=>exact .inr ⟨if_neg (by simp),_,zY _ s9 (zcV (cd.trans (by rw [hq]))),_,_,rfl⟩)
 have s1:gSet 6 (gLst (gCallN zF 2 (gConsA (gVar 5) (gConsA (gVar 0) gNilA)))) [some (dF (a,b)),some (dF (c,e)),some (dF (a',b')),some (dF (c',e')),some (.int (B:Nat)),some (.int (1 + (k:Int))),y,z,w,v]=some (.nx [some (dF (a,b)),some (dF (c,e)),some (dF (a',b')),some (dF (c',e')),some (.int (B:Nat)),some (.int (1 + (k:Int))),some R,z,w,v]):=by
  rw [eR]; exact zR (zZ (za1 (zd rfl (zd rfl rfl)) rfl t1))
 have s2:gSet 7 (gLst (gCallN zF 2 (gConsA (gVar 5) (gConsA (gVar 2) gNilA)))) [some (dF (a,b)),some (dF (c,e)),some (dF (a',b')),some (dF (c',e')),some (.int (B:Nat)),some (.int (1 + (k:Int))),some R,z,w,v]=some (.nx [some (dF (a,b)),some (dF (c,e)),some (dF (a',b')),some (dF (c',e')),some (.int (B:Nat)),some (.int (1 + (k:Int))),some R,some R',w,v]):=by
  rw [eR']; exact zR (zZ (za1 (zd rfl (zd rfl rfl)) rfl t2))
 have ri:gRange1 (gConsA (g2 dAddV (gVar 5) (gC (.int (1)))) gNilA) [some (dF (a,b)),some (dF (c,e)),some (dF (a',b')),some (dF (c',e')),some (.int (B:Nat)),some (.int (1 + (k:Int))),some R,some R',w,v]=some ((List.range (k + 2)).map fun j:Nat=>PyData.int (0 + (j:Int))):=by
  refine zbH (n:=k + 2) ((zd (zj rfl rfl rfl) rfl).trans ?_) (by omega)
  refine congrArg (fun x=>some [PyData.int x]) ?_
  show 1 + (k:Int) + 1=((k + 2:Nat):Int)
  omega
 rcases inner with ⟨d,e1,e2⟩ | ⟨e1,δ',e2,w',v',rfl⟩
 ·exact .inl ⟨d,e1,zY _ s1 (zY _ s2 (zdS ri e2))⟩
 ·exact .inr ⟨e1,_,zY _ s1 (zY _ s2 (zdS ri e2)),_,_,_,_,_,rfl⟩
end
end MyLaw
namespace MyLaw
open PySem L2 Q1
theorem seqR1 {x:DS->Option D} {rest:DS->Option Res} {δ:DS} (hx:x δ=some .none):gSeq (gDropR x) rest δ=rest δ:=by
 unfold gSeq gDropR; rw [hx]; rfl
theorem seqG1 {x:DS->Option D} {rest:DS->Option Res} {δ:DS} (hx:x δ=some .none):gSeq (gDrop x) rest δ=rest δ:=by
 unfold gSeq gDrop; rw [hx]; rfl
theorem seqX {x:DS->Option D} {rest:DS->Option Res} {δ:DS} {c:Str} (hx:x δ=some (rxD c)):gSeq (gDropR x) rest δ=some (.rt (rxD c)):=by
 unfold gSeq gDropR; rw [hx]; rfl
theorem zlc {i:Nat} {g:DS->Option D} {δ:DS} {c:Str} (h:g δ=some (rxD c)):gSetR i g δ=some (.rt (rxD c)):=by unfold gSetR; rw [h]; rfl
theorem zmY {i:Nat} {g:DS->Option D} {δ:DS} {d:D} (h:g δ=some d) (hd:isRx d=none):gSetR i g δ=some (.nx (δ.set i (some d))):=by
 unfold gSetR; rw [h]; show some (orRx d _)=_; rw [zdm hd]
theorem zk8 {gb:DS->Option Res} {hand:Str->Option D} {δ:DS} {c:Str} {d:D} (h:gb δ=some (.rt (rxD c))) (hh:hand c=some d):gTry gb hand δ=some (.rt d):=by
 unfold gTry; rw [h]; show (hand c).bind _=_; rw [hh]; rfl
theorem znq {gb:DS->Option Res} {hand:Str->Option D} {δ δ':DS} (h:gb δ=some (.nx δ')):gTry gb hand δ=some (.nx δ'):=by unfold gTry; rw [h]; rfl
theorem or_b {a b:DS->Option Bool} {δ:DS} {x y:Bool} (h1:a δ=some x) (h2:b δ=some y):gOr a b δ=some (x || y):=by
 unfold gOr; rw [h1]
 cases x with
 | true=>rfl
 | false=>exact h2
theorem zgN {f f':D->D->Option D} {a b c:DS->Option D} {δ:DS} {x y z:D} {u v:Bool} (h1:a δ=some x) (h2:b δ=some y) (h3:f x y=some (.bool u)) (h4:c δ=some z) (h5:f' y z=some (.bool v)):gChain f f' a b c δ=some (.bool (u && v)):=by
 unfold gChain; rw [h1,h2,Option.bind_some,Option.bind_some,h3,Option.bind_some,h4]
 cases u with
 | true=>exact h5
 | false=>rfl
theorem zls {c:DS->Option Bool} {a:DS->Option Res} {δ:DS} {Z:DS->Prop} (x:Bool) (h:c δ=some x) (hz:Z δ) (ha:∃ δ',a δ=some (.nx δ') /\ Z δ'):∃ δ',gIf c a gSkip δ=some (.nx δ') /\ Z δ':=by
 cases x with
 | true=>obtain ⟨δ',e,z⟩:=ha; exact ⟨δ',zgg true h (fun _=>e) (fun z=>nomatch z),z⟩
 | false=>exact ⟨δ,zcV h,hz⟩
theorem zmq {α β:Type} (enc:α->β) (l:List α) (h:0 < l.length) (m:Int):∃ a∈l,atI (l.map enc) (m % (l.length:Int))=some (enc a):=by
 have h0:=Int.emod_nonneg m (show (l.length:Int)≠0 by omega)
 have h1:=Int.emod_lt_of_pos m (show 0 < (l.length:Int) by omega)
 obtain ⟨k,hk⟩:∃ k:Nat,m % (l.length:Int)=(k:Nat):=⟨(m % (l.length:Int)).toNat,by omega⟩
 have hkl:k < l.length:=by omega
 refine ⟨l[k],List.getElem_mem hkl,?_⟩
 rw [hk]
 exact zba (by rw [List.getElem?_map,List.getElem?_eq_getElem hkl]; rfl)
theorem znh {i j:Nat} {g:DS->Option (List D)} {δ:DS} {x y:D} (h:g δ=some [x,y]):gPar i j g δ=some (.nx ((δ.set i (some x)).set j (some y))):=by
 unfold gPar; rw [h]; rfl
structure Fq (q:Fr2):Prop where
 tp:bt q.1<=70
 lo:1<=q.2
 hi:q.2 < 2 ^ 70
theorem Fq.bb {q:Fr2} (h:Fq q):bt q.2<=70:=zal (by have:=h.lo; have:=h.hi; omega)
theorem zei {t b:Int} (ht:t.natAbs < 2 ^ 70) (hb:1<=b) (hbb:b < 2 ^ 70):Gets (zax [.int t,.int b]) fun d=>∃ q:Fr2,d=dF q /\ Fq q:=by
 rw [zfu]
 refine zQ [some (.int t),some (.int b),some (.int (t.natAbs:Nat)),none] (zR (znZ rfl)) ?_
 refine zQ [some (.int t),some (.int b),some (.int (t.natAbs:Nat)),some (.int b)] rfl ?_
 refine zfg (fun m δ=>∃ one other:Int,δ=[some (.int t),some (.int b),some (.int one),some (.int other)] /\ 0<=one /\ 0<=other /\ (∀ z:Int,z ∣ one->z ∣ other->z ∣ t /\ z ∣ b) /\ m=other.toNat)
  (fun δ=>∃ one other:Int,δ=[some (.int t),some (.int b),some (.int one),some (.int other)] /\ 0<=one /\ one ∣ t /\ one ∣ b) b.toNat ⟨(t.natAbs:Nat),b,rfl,by omega,by omega,fun z h1 h2=>⟨Int.dvd_natAbs.mp h1,h2⟩,rfl⟩ ?_ ?_
 ·rintro m δ ⟨one,other,rfl,h1,h2,hz,rfl⟩
  have cd:gB (g2 dGt (gVar 3) (gC (.int (0)))) [some (.int t),some (.int b),some (.int one),some (.int other)]=some (decide (0 < other)):=zbE (zj rfl rfl rfl)
  by_cases h:0 < other
  ·refine .inr ⟨cd.trans (by rw [decide_eq_true h]),[some (.int t),some (.int b),some (.int other),some (.int (one % other))],(one % other).toNat,znh (zd rfl (zd (zj rfl rfl (zcd h)) rfl)),?_,other,one % other,rfl,h2,Int.emod_nonneg _ (by omega),fun z q1 q2=>hz z ?_ q1,rfl⟩
   ·have:=Int.emod_lt_of_pos one h
    have:=Int.emod_nonneg one (b:=other) (by omega)
    omega
   ·have e:=Int.emod_add_mul_ediv one other
    rw [<- e]
    exact Int.dvd_add q2 (Int.dvd_mul_of_dvd_left q1)
  ·refine .inl ⟨cd.trans (by rw [decide_eq_false h]),one,other,rfl,h1,?_⟩
   have e:other=0:=by omega
   exact hz one (Int.dvd_refl _) (by rw [e]; exact Int.dvd_zero _)
 ·rintro δ' ⟨one,other,rfl,h1,⟨x,hx⟩,⟨y,hy⟩⟩
  have h0:one≠0:=fun e=>by rw [e,Int.zero_mul] at hy; omega
  have hp:0 < one:=by omega
  have hone:one < 2 ^ 70:=by
   have:one<=b:=Int.le_of_dvd (by omega) ⟨y,hy⟩
   omega
  have d1:dDiv (.int t) (.int one)=some (.int x):=by rw [zjB hp (zbF (zal (m:=70) (by omega)) (by decide)),hx,Int.mul_ediv_cancel_left _ h0]
  have d2:dDiv (.int b) (.int one)=some (.int y):=by rw [zjB hp (zbF (zal (m:=70) (by omega)) (by decide)),hy,Int.mul_ediv_cancel_left _ h0]
  have hy1:1<=y:=by
   apply Classical.byContradiction
   intro n
   have:one * y<=0:=Int.mul_nonpos_of_nonneg_of_nonpos h1 (by omega)
   omega
  have hyb:y<=b:=by
   rw [hy]
   have:=Int.mul_le_mul_of_nonneg_right (show (1:Int)<=one by omega) (show 0<=y by omega)
   omega
  have hxt:x.natAbs<=t.natAbs:=by
   rw [hx,Int.natAbs_mul]
   exact Nat.le_mul_of_pos_left _ (by omega)
  exact ret (dF (x,y)) (ziJ (zd (zj rfl rfl d1) (zd (zj rfl rfl d2) rfl)) (by show 2<=100000; decide)) (.mk rfl ⟨(x,y),rfl,zal (by show x.natAbs < _; omega),hy1,by show y < _; omega⟩)
theorem zl2 (a b c e a' b' c' e':Int) (B:Nat):resF a b c e a' b' c' e' B=.none \/ ∃ k j:Nat,resF a b c e a' b' c' e' B=tp2 k j:=by
 unfold resF
 cases q:(List.range B).findSome? (oneF a b c e a' b' c' e') with
 | none=>exact .inl rfl
 | some d=>
   refine .inr ?_
   obtain ⟨k,_,hk⟩:=List.exists_of_findSome?_eq_some q
   unfold oneF at hk
   obtain ⟨j,_,hj⟩:=List.exists_of_findSome?_eq_some hk
   split at hj
   ·cases hj; exact ⟨k,j,rfl⟩
   ·cases hj
noncomputable def okS (l h:Fr2):Prop:=0 < l.1 /\ l.1 * h.2 < h.1 * l.2 /\ h.1 < h.2
noncomputable def okM (m:Fr2):Prop:=0<=m.1 /\ m.1<=m.2
instance (l h:Fr2):Decidable (okS l h):=by unfold okS; infer_instance
instance (m:Fr2):Decidable (okM m):=by unfold okM; infer_instance
theorem ziB {l h:Fr2} (hl:Fq l) (hh:Fq h):zaj [dF l,dF h]=some (if okS l h then .none else rxD "NoShares"):=by
 rw [zc9]
 have u1:=zaC (0,1) l (mulOk (m:=70) (zal (by decide)) hl.bb) (mulOk (n:=70) hl.tp (zal (by decide)))
 have u2:=zaC l h (mulOk hl.tp hh.bb) (mulOk hh.tp hl.bb)
 have u3:=zaC h (1,1) (mulOk (n:=70) hh.tp (zal (by decide))) (mulOk (m:=70) (zal (by decide)) hh.bb)
 have hc:gNot (gAnd (gTru (gCall zD 2 (gConsA (gC (.tuple [(.int (0)),(.int (1))])) (gConsA (gVar 0) gNilA)))) (gAnd (gTru (gCall zD 2 (gConsA (gVar 0) (gConsA (gVar 1) gNilA)))) (gTru (gCall zD 2 (gConsA (gVar 1) (gConsA (gC (.tuple [(.int (1)),(.int (1))])) gNilA)))))) [some (dF l),some (dF h)]=some (!decide (okS l h)):=by
  refine (zdr (zh0 (zbi (zq (zd rfl (zd rfl rfl)) rfl u1)) (zh0 (zbi (zq (zd rfl (zd rfl rfl)) rfl u2)) (zbi (zq (zd rfl (zd rfl rfl)) rfl u3))))).trans ?_
  congr 2
  rw [Bool.eq_iff_iff]
  simp only [Bool.and_eq_true,decide_eq_true_eq]
  unfold okS
  constructor
  ·rintro ⟨a,b,c⟩; exact ⟨by omega,b,by omega⟩
  ·rintro ⟨a,b,c⟩; exact ⟨by omega,b,by omega⟩
 by_cases q:okS l h
 ·rw [decide_eq_true q] at hc
  rw [if_pos q,show zak [some (dF l),some (dF h)]=_ from zcV hc]; rfl
 ·rw [decide_eq_false q] at hc
  rw [if_neg q,show zak [some (dF l),some (dF h)]=some (.rt (rxD "NoShares")) from zgg true hc (fun _=>rfl) fun z=>nomatch z]; rfl
theorem zhH {m:Fr2} (hm:Fq m):zay [dF m]=some (if okM m then .none else rxD "NoShares"):=by
 rw [zeg]
 have u1:=zaC m (0,1) (mulOk (n:=70) hm.tp (zal (by decide))) (mulOk (m:=70) (zal (by decide)) hm.bb)
 have u2:=zaC (1,1) m (mulOk (m:=70) (zal (by decide)) hm.bb) (mulOk (n:=70) hm.tp (zal (by decide)))
 have hc:gOr (gTru (gCall zD 2 (gConsA (gVar 0) (gConsA (gC (.tuple [(.int (0)),(.int (1))])) gNilA)))) (gTru (gCall zD 2 (gConsA (gC (.tuple [(.int (1)),(.int (1))])) (gConsA (gVar 0) gNilA)))) [some (dF m)]=some (!decide (okM m)):=by
  refine (or_b (zbi (zq (zd rfl (zd rfl rfl)) rfl u1)) (zbi (zq (zd rfl (zd rfl rfl)) rfl u2))).trans ?_
  congr 1
  rw [Bool.eq_iff_iff]
  simp only [Bool.or_eq_true,decide_eq_true_eq,Bool.not_eq_true',decide_eq_false_iff_not]
  unfold okM
  have:=hm.lo
  omega
 by_cases q:okM m
 ·rw [decide_eq_true q] at hc
  rw [if_pos q,show zaX [some (dF m)]=_ from zcV hc]; rfl
 ·rw [decide_eq_false q] at hc
  rw [if_neg q,show zaX [some (dF m)]=some (.rt (rxD "NoShares")) from zgg true hc (fun _=>rfl) fun z=>nomatch z]; rfl
noncomputable def dueS (l m h n:Fr2) (B:Int):Str:=if okS l h /\ okM m /\ okM n then (if 1<=B /\ B<=24 then ("":Str) else "TooLong") else "NoShares"
section
variable {l m h n:Fr2} (hl:Fq l) (hm:Fq m) (hh:Fq h) (hn:Fq n) (B:Int)
include hl hm hh hn
theorem zkt:(¬ (okS l h /\ okM m /\ okM n)->zV [dF l,dF m,dF h,dF n,.int B]=some (rxD "NoShares")) /\ (okS l h /\ okM m /\ okM n->(¬ (1<=B /\ B<=24)->zV [dF l,dF m,dF h,dF n,.int B]=some (rxD "TooLong")) /\ ((1<=B /\ B<=24)->∃ d,zV [dF l,dF m,dF h,dF n,.int B]=some d /\ (d=.none \/ ∃ x,d=.tuple x))):=by
 rw [zew]
 have v1:=ziB hl hh
 have v2:=zhH hm
 have v3:=zhH hn
 by_cases q1:okS l h
 ·rw [if_pos q1] at v1
  have e1:zL [some (dF l),some (dF m),some (dF h),some (dF n),some (.int B),none,none,none,none,none]=_:=seqR1 (zq (zd rfl (zd rfl rfl)) rfl v1)
  by_cases q2:okM m
  ·rw [if_pos q2] at v2
   have e2:zL [some (dF l),some (dF m),some (dF h),some (dF n),some (.int B),none,none,none,none,none]=_:=e1.trans (seqR1 (zq (zd rfl rfl) rfl v2))
   by_cases q3:okM n
   ·rw [if_pos q3] at v3
    have e3:zL [some (dF l),some (dF m),some (dF h),some (dF n),some (.int B),none,none,none,none,none]=_:=e2.trans (seqR1 (zq (zd rfl rfl) rfl v3))
    refine ⟨fun z=>absurd ⟨q1,q2,q3⟩ z,fun _=>?_⟩
    have hc:gNot (gB (gChain dLe dLe (gC (.int (1))) (gVar 4) (gC (.int (24))))) [some (dF l),some (dF m),some (dF h),some (dF n),some (.int B),none,none,none,none,none]=some (!(decide (1<=B) && decide (B<=24))):=zdr (zbE (zgN rfl rfl rfl rfl rfl))
    rw [<- Bool.decide_and] at hc
    constructor
    ·intro qb
     rw [decide_eq_false qb] at hc
     have e4:zL [some (dF l),some (dF m),some (dF h),some (dF n),some (.int B),none,none,none,none,none]=_:=e3.trans (zb5 (d:=rxD "TooLong") (zgg true hc (fun _=>rfl) fun z=>nomatch z))
     rw [e4]; rfl
    ·intro qb
     rw [decide_eq_true qb] at hc
     obtain ⟨K,hK⟩:∃ K:Nat,B=(K:Nat):=⟨B.toNat,by omega⟩
     subst hK
     have hS:Sh l.1 l.2:=⟨q1.1,by
      have:=q1.2.1; have:=q1.2.2; have:=hl.lo; have:=hh.lo
      apply Classical.byContradiction
      intro z
      have z1:l.2 * h.2<=l.1 * h.2:=Int.mul_le_mul_of_nonneg_right (by omega) (by omega)
      have z2:h.1 * l.2 < h.2 * l.2:=Int.mul_lt_mul_of_pos_right (by omega) (by omega)
      rw [Int.mul_comm h.2 l.2] at z2
      omega,hl.hi⟩
     have hS':Sh h.1 h.2:=⟨by
      have:=q1.1; have:=q1.2.1; have:=hl.lo; have:=hh.lo
      apply Classical.byContradiction
      intro z
      have z1:0 < l.1 * h.2:=Int.mul_pos (by omega) (by omega)
      have z2:h.1 * l.2<=0:=Int.mul_nonpos_of_nonpos_of_nonneg (by omega) (by omega)
      omega,q1.2.2,hh.hi⟩
     have hM:Mo m.1 m.2:=⟨q2.1,q2.2,hm.lo,hm.hi⟩
     have hM':Mo n.1 n.2:=⟨q3.1,q3.2,hn.lo,hn.hi⟩
     have v:=zfK hS hM hS' hM' q1.2.1 (B:=K) (by omega) (by omega)
     rw [zcQ] at v
     have g4:zaU [some (dF l),some (dF m),some (dF h),some (dF n),some (.int (K:Nat)),none,none,none,none,none]=_:=(seqG1 (zq (zd rfl (zd rfl rfl)) rfl (zbZ hS hS' q1.2.1))).trans ((seqG1 (zq (zd rfl rfl) rfl (zbf hM))).trans ((seqG1 (zq (zd rfl rfl) rfl (zbf hM'))).trans (zbB (zcV hc))))
     have e4:zL [some (dF l),some (dF m),some (dF h),some (dF n),some (.int (K:Nat)),none,none,none,none,none]=_:=e3.trans (zbB (zcV hc))
     have v':(zaU [some (dF l),some (dF m),some (dF h),some (dF n),some (.int (K:Nat)),none,none,none,none,none]).bind gOut=_:=v
     rw [g4] at v'
     rw [e4]
     refine ⟨_,v',?_⟩
     rcases zl2 l.1 l.2 m.1 m.2 h.1 h.2 n.1 n.2 K with z | ⟨k,j,z⟩
     ·exact .inl z
     ·exact .inr ⟨_,z⟩
   ·rw [if_neg q3] at v3
    have e3:zL [some (dF l),some (dF m),some (dF h),some (dF n),some (.int B),none,none,none,none,none]=_:=e2.trans (seqX (zq (zd rfl rfl) rfl v3))
    rw [e3]
    exact ⟨fun _=>rfl,fun z=>absurd z.2.2 q3⟩
  ·rw [if_neg q2] at v2
   have e2:zL [some (dF l),some (dF m),some (dF h),some (dF n),some (.int B),none,none,none,none,none]=_:=e1.trans (seqX (zq (zd rfl rfl) rfl v2))
   rw [e2]
   exact ⟨fun _=>rfl,fun z=>absurd z.2.1 q2⟩
 ·rw [if_neg q1] at v1
  have e1:zL [some (dF l),some (dF m),some (dF h),some (dF n),some (.int B),none,none,none,none,none]=_:=seqX (zq (zd rfl (zd rfl rfl)) rfl v1)
  rw [e1]
  exact ⟨fun _=>rfl,fun z=>absurd z.1 q1⟩
theorem zfV:zaY [dF l,dF m,dF h,dF n,.int B]=some (.str (dueS l m h n B)):=by
 rw [zeX]
 have m1:("NoShares":Str)∈CSX:=.head _
 have m2:("TooLong":Str)∈CSX:=.tail _ (.head _)
 have hx:∀ {x:Str},x∈CSX->handOf CSX (fun c=>.str c) x=some (.str x):=fun hx=>by unfold handOf; rw [if_pos hx]
 have v:=zkt hl hm hh hn B
 unfold dueS
 by_cases q:okS l h /\ okM m /\ okM n
 ·rw [if_pos q]
  by_cases qb:1<=B /\ B<=24
  ·rw [if_pos qb]
   obtain ⟨d,e,hd⟩:=(v.2 q).2 qb
   have hr:isRx d=none:=by rcases hd with rfl | ⟨x,rfl⟩ <;> rfl
   refine zU (zQ [some (dF l),some (dF m),some (dF h),some (dF n),some (.int B),some d,none] (znq (zmY (zq (zd rfl (zd rfl (zd rfl (zd rfl (zd rfl rfl))))) rfl e) hr)) ?_)
   refine zeo true ?_ (fun _=>zeS (.str "") rfl (.mk rfl rfl)) fun z=>nomatch z
   rcases hd with rfl | ⟨x,rfl⟩
   ·rfl
   ·exact or_b (x:=false) (y:=true) rfl (zbi rfl)
  ·rw [if_neg qb]
   have e:=zk8 (hand:=handOf CSX (fun c=>.str c)) (zlc (i:=5) (g:=gCall zV 5 (gConsA (gVar 0) (gConsA (gVar 1) (gConsA (gVar 2) (gConsA (gVar 3) (gConsA (gVar 4) gNilA)))))) (δ:=[some (dF l),some (dF m),some (dF h),some (dF n),some (.int B),none,none]) (zq (zd rfl (zd rfl (zd rfl (zd rfl (zd rfl rfl))))) rfl ((v.2 q).1 qb))) (hx m2)
   rw [show zaW [some (dF l),some (dF m),some (dF h),some (dF n),some (.int B),none,none]=_ from zb5 e]; rfl
 ·rw [if_neg q]
  have e:=zk8 (hand:=handOf CSX (fun c=>.str c)) (zlc (i:=5) (g:=gCall zV 5 (gConsA (gVar 0) (gConsA (gVar 1) (gConsA (gVar 2) (gConsA (gVar 3) (gConsA (gVar 4) gNilA)))))) (δ:=[some (dF l),some (dF m),some (dF h),some (dF n),some (.int B),none,none]) (zq (zd rfl (zd rfl (zd rfl (zd rfl (zd rfl rfl))))) rfl (v.1 q))) (hx m1)
  rw [show zaW [some (dF l),some (dF m),some (dF h),some (dF n),some (.int B),none,none]=_ from zb5 e]; rfl
theorem zhd:zbS [dF l,dF m,dF h,dF n,.int B]=some (.str (dueS l m h n B)):=by
 rw [zhV]
 refine zU ?_
 have hc:gOr (gB (g2 dLe (g2 dIx (gVar 0) (gC (.int (0)))) (gC (.int (0))))) (gOr (gB (g2 dGe (g2 dIx (gVar 2) (gC (.int (0)))) (g2 dIx (gVar 2) (gC (.int (1)))))) (gB (g2 dGe (g2 dMulI (g2 dIx (gVar 0) (gC (.int (0)))) (g2 dIx (gVar 2) (gC (.int (1))))) (g2 dMulI (g2 dIx (gVar 2) (gC (.int (0)))) (g2 dIx (gVar 0) (gC (.int (1)))))))) [some (dF l),some (dF m),some (dF h),some (dF n),some (.int B),none]=some (!decide (okS l h)):=by
  refine (or_b (zbE (zj (zj rfl rfl (zaB l)) rfl rfl)) (or_b (zbE (zj (zj rfl rfl (zaB h)) (zj rfl rfl (zaA h)) rfl)) (zbE (zj (zj (zj rfl rfl (zaB l)) (zj rfl rfl (zaA h)) (zbm (mulOk hl.tp hh.bb))) (zj (zj rfl rfl (zaB h)) (zj rfl rfl (zaA l)) (zbm (mulOk hh.tp hl.bb))) rfl)))).trans ?_
  congr 1
  rw [Bool.eq_iff_iff]
  simp only [Bool.or_eq_true,decide_eq_true_eq,Bool.not_eq_true',decide_eq_false_iff_not]
  unfold okS
  omega
 have hm2:∀ {q:Fr2} {x:Option D},gOr (gB (g2 dLt (g2 dIx (gVar 5) (gC (.int (0)))) (gC (.int (0))))) (gB (g2 dGt (g2 dIx (gVar 5) (gC (.int (0)))) (g2 dIx (gVar 5) (gC (.int (1)))))) [some (dF l),some (dF m),some (dF h),some (dF n),some (.int B),some (dF q)]=some (!decide (okM q)):=fun {q x}=>by
  refine (or_b (zbE (zj (zj rfl rfl (zaB q)) rfl rfl)) (zbE (zj (zj rfl rfl (zaB q)) (zj rfl rfl (zaA q)) rfl))).trans ?_
  congr 1
  rw [Bool.eq_iff_iff]
  simp only [Bool.or_eq_true,decide_eq_true_eq,Bool.not_eq_true',decide_eq_false_iff_not]
  unfold okM
  omega
 unfold dueS
 refine zeo _ hc (fun z=>?_) fun z=>?_
 ·have q1:¬ okS l h:=by simpa using z
  rw [if_neg fun z=>q1 z.1]
  exact zeS (.str "NoShares") rfl (.mk rfl rfl)
 ·have q1:okS l h:=by simpa using z
  rw [zgU]
  obtain ⟨bd,hbd⟩:∃ bd,bd=gIf (gOr (gB (g2 dLt (g2 dIx (gVar 5) (gC (.int (0)))) (gC (.int (0))))) (gB (g2 dGt (g2 dIx (gVar 5) (gC (.int (0)))) (g2 dIx (gVar 5) (gC (.int (1))))))) (gRet (gC (.str "NoShares"))) gSkip:=⟨_,rfl⟩
  have b1:∀ q:Fr2,okM q->bd [some (dF l),some (dF m),some (dF h),some (dF n),some (.int B),some (dF q)]=some (.nx [some (dF l),some (dF m),some (dF h),some (dF n),some (.int B),some (dF q)]):=fun q hq=>by
   rw [hbd]; exact zcV ((hm2 (x:=none)).trans (by rw [decide_eq_true hq]; rfl))
  have b2:∀ q:Fr2,¬ okM q->bd [some (dF l),some (dF m),some (dF h),some (dF n),some (.int B),some (dF q)]=some (.rt (.str "NoShares")):=fun q hq=>by
   rw [hbd]; exact zgg true ((hm2 (x:=none)).trans (by rw [decide_eq_false hq]; rfl)) (fun _=>rfl) fun z=>nomatch z
  rw [<- hbd]
  have fo:gFor (gItems (gTupD (gConsA (gVar 1) (gConsA (gVar 3) gNilA)))) (gName' 5) bd [some (dF l),some (dF m),some (dF h),some (dF n),some (.int B),none]=if okM m /\ okM n then some (.nx [some (dF l),some (dF m),some (dF h),some (dF n),some (.int B),some (dF n)]) else some (.rt (.str "NoShares")):=by
   refine zdS (ds:=[dF m,dF n]) rfl ?_
   show Option.bind (bd [some (dF l),some (dF m),some (dF h),some (dF n),some (.int B),some (dF m)]) _=_
   by_cases q2:okM m
   ·rw [b1 m q2,Option.bind_some]
    show Option.bind (bd [some (dF l),some (dF m),some (dF h),some (dF n),some (.int B),some (dF n)]) _=_
    by_cases q3:okM n
    ·rw [b1 n q3,if_pos ⟨q2,q3⟩]; rfl
    ·rw [b2 n q3,if_neg fun z=>q3 z.2]; rfl
   ·rw [b2 m q2,if_neg fun z=>q2 z.1]; rfl
  by_cases q23:okM m /\ okM n
  ·rw [if_pos ⟨q1,q23⟩]
   rw [if_pos q23] at fo
   refine zQ _ fo ?_
   have ch:gChain dLe dLe (gC (.int (1))) (gVar 4) (gC (.int (24))) [some (dF l),some (dF m),some (dF h),some (dF n),some (.int B),some (dF n)]=some (.bool (decide (1<=B /\ B<=24))):=by
    rw [Bool.decide_and]; exact zgN rfl rfl rfl rfl rfl
   by_cases qb:1<=B /\ B<=24
   ·rw [if_pos qb]
    rw [decide_eq_true qb] at ch
    exact ret (.str "") (zj (zZ rfl) (zmd (zd ch rfl) rfl) atI1) (.mk rfl rfl)
   ·rw [if_neg qb]
    rw [decide_eq_false qb] at ch
    exact ret (.str "TooLong") (zj (zZ rfl) (zmd (zd ch rfl) rfl) atI0) (.mk rfl rfl)
  ·rw [if_neg fun z=>q23 z.2]
   rw [if_neg q23] at fo
   refine ⟨.str "NoShares",?_,rfl⟩
   rw [zb5 fo]; rfl
end
theorem znj (l m h n:Fr2) (B:Int):PyData.strOk (dueS l m h n B)=true:=by
 have k1:PyData.strOk "NoShares"=true:=by decide +kernel
 have k2:PyData.strOk "TooLong"=true:=by decide +kernel
 have k3:PyData.strOk ""=true:=by decide +kernel
 unfold dueS
 repeat' split
 all_goals assumption
end MyLaw
namespace MyLaw
open PySem L2 Q1
theorem zjx {a b:DS->Option D} {δ:DS} {x y:Int} (h1:a δ=some (.int x)) (h2:b δ=some (.int y)):gB (g2 dEq a b) δ=some (decide (x=y)):=zbE (zj h1 h2 rfl)
theorem zmW {l:List Int} {k:Nat} {x:Int} (h:l[k]?=some x):dIx (.list (l.map .int)) (.int (k:Int))=some (.int x):=zba (by rw [List.getElem?_map,h]; rfl)
theorem zlv {a b c d n:Int} (h0:0<=n) (h1:n < 4) (ha:a.natAbs < 2 ^ 70) (hb:b.natAbs < 2 ^ 70) (hc:c.natAbs < 2 ^ 70) (hd:d.natAbs < 2 ^ 70):∃ z:Int,dIx (.list [.int a,.int b,.int c,.int d]) (.int n)=some (.int z) /\ z.natAbs < 2 ^ 70:=by
 have:n=0 \/ n=1 \/ n=2 \/ n=3:=by omega
 rcases this with rfl | rfl | rfl | rfl
 ·exact ⟨a,atI0,ha⟩
 ·exact ⟨b,atI1,hb⟩
 ·exact ⟨c,zba (j:=2) rfl,hc⟩
 ·exact ⟨d,zba (j:=3) rfl,hd⟩
theorem zlU {i:Nat} {g:DS->Option D} {δ:DS} {l:List D} {d:D} (h1:gVar i δ=some (.list l)) (h2:g δ=some d) (hl:l.length < 100000):gApp i g δ=some (.nx (δ.set i (some (.list (l ++ [d]))))):=by
 unfold gApp
 rw [h1,h2]
 show (if l.length < 100000 then _ else _)=_
 rw [if_pos hl]
theorem zkQ (ns:List Int) (_h:ns.length<=63):zhz [.list (ns.map .int)]=some (.bool true):=by
 rw [zor]
 refine zU ?_
 have p30:dPow (.int 10) (.int 30)=some (.int (10 ^ 30)):=zmU (k:=30) (by decide) (by decide)
 have hp0:(0:Int) < 10 ^ 30:=by decide
 obtain ⟨m,em,hm,_⟩:=zj9 PyData.int ns none (some 20)
 have hl:∃ l:List Int,l.length<=100 /\ gItems (gLst (g2N dCat (gLst (gSlL (gVar 0) gNoPart (gPart (gC (.int (20)))))) (gLst (gLstN (gConsA (gCall zas 2 (gConsA (gVar 0) (gConsA (gC (.int (0))) gNilA))) gNilA))))) [some (.list (ns.map .int)),none,none,none,none,none,none,none,none]=some (l.map .int):=by
  refine ⟨m ++ [ns.getD 0 0],by rw [List.length_append,List.length_singleton]; omega,?_⟩
  have e1:gLst (gSlL (gVar 0) gNoPart (gPart (gC (.int (20))))) [some (.list (ns.map .int)),none,none,none,none,none,none,none,none]=some (.list (m.map .int)):=by
   rw [<- em]; rfl
  have e2:gLst (gLstN (gConsA (gCall zas 2 (gConsA (gVar 0) (gConsA (gC (.int (0))) gNilA))) gNilA)) [some (.list (ns.map .int)),none,none,none,none,none,none,none,none]=some (.list (([ns.getD 0 0]:List Int).map .int)):=by
   have ec:gConsA (gCall zas 2 (gConsA (gVar 0) (gConsA (gC (.int (0))) gNilA))) gNilA [some (.list (ns.map .int)),none,none,none,none,none,none,none,none]=some [.int (ns.getD 0 0)]:=zd (zq (zd rfl (zd rfl rfl)) rfl (zhr ns 0)) rfl
   refine zZ ?_
   unfold gLstN
   rw [ec]
   rfl
  have e3:=zlf e1 e2 (by simp; omega)
  unfold gItems
  rw [zZ e3,List.map_append]
  rfl
 obtain ⟨l,hll,el⟩:=hl
 obtain ⟨S,eS⟩:∃ S:D,S=.list (ns.map .int):=⟨_,rfl⟩
 rw [<- eS] at el ⊢
 refine zdD PyData.int l (fun _ δ=>∃ a b c d e f g h:Option D,δ=[some S,a,b,c,d,e,f,g,h]) el ⟨_,_,_,_,_,_,_,_,rfl⟩ ?_ fun δ' _=>ret (.bool true) rfl (.mk rfl rfl)
 rintro j cell δ hj ⟨s1,s2,s3,s4,s5,s6,s7,s8,rfl⟩
 obtain ⟨_,en,nu,rfl,hnl,hnu⟩:=zee cell [30,30,30,30,30,30,30,30,30,5,5,8] (by intro b hb; simp at hb; omega) (by decide)
 have hnl:nu.length=12:=hnl
 have gt:∀ (k:Nat) (b:Int),([30,30,30,30,30,30,30,30,30,5,5,8]:List Int)[k]?=some b->∃ x,nu[k]?=some x /\ 0<=x /\ x < b:=fun k b hk=>by
  have hk2:k < 12:=(List.getElem?_eq_some_iff.mp hk).1
  have e:=List.getElem?_eq_getElem (show k < nu.length by omega)
  exact ⟨_,e,hnu k b _ hk e⟩
 have gt8:∀ k:Nat,k < 8->∃ x,nu[k]?=some x /\ 0<=x /\ x < 30:=fun k hk=>gt k 30 (by
  have:k=0 \/ k=1 \/ k=2 \/ k=3 \/ k=4 \/ k=5 \/ k=6 \/ k=7:=by omega
  rcases this with rfl | rfl | rfl | rfl | rfl | rfl | rfl | rfl <;> rfl)
 obtain ⟨n8,g8,l8,u8⟩:=gt 8 30 rfl
 obtain ⟨n9,g9,l9,u9⟩:=gt 9 5 rfl
 obtain ⟨n10,g10,l10,u10⟩:=gt 10 5 rfl
 obtain ⟨n11,g11,l11,u11⟩:=gt 11 8 rfl
 obtain ⟨N,eN⟩:∃ N:D,N=.list (nu.map .int):=⟨_,rfl⟩
 have ix:∀ {k:Nat} {x:Int},nu[k]?=some x->dIx N (.int (k:Int))=some (.int x):=fun h=>by rw [eN]; exact zmW h
 have st2:gSet 2 (gLst (gCallN z5 2 (gConsA (gVar 1) (gConsA (gLst (gLstN (gInts [30,30,30,30,30,30,30,30,30,5,5,8]))) gNilA)))) [some S,some (.int cell),s2,s3,s4,s5,s6,s7,s8]=some (.nx [some S,some (.int cell),some N,s3,s4,s5,s6,s7,s8]):=by
  rw [eN]; exact zR (zZ (za1 (zd rfl (zd rfl rfl)) rfl en))
 obtain ⟨bd,hbd⟩:∃ bd,bd=(gSeq (gSet 5 (g2 dAddV (gC (.int (1))) (g2 dIx (gVar 2) (g2 dAddV (g2 dMulI (gC (.int (2))) (gVar 4)) (gC (.int (1)))))))
  (gSeq (gSet 6 (g2 dMod (g2 dIx (gVar 2) (g2 dMulI (gC (.int (2))) (gVar 4))) (g2 dAddV (gVar 5) (gC (.int (1))))))
  (gSeq (gIf (gAnd (gOr (gB (g2 dEq (g2 dIx (gVar 2) (gC (.int (9)))) (gVar 4))) (gB (g2 dEq (g2 dIx (gVar 2) (gC (.int (10)))) (gVar 4)))) (gB (g2 dEq (g2 dMod (g2 dIx (gVar 2) (gC (.int (11)))) (gC (.int (2)))) (gC (.int (0)))))) (gSet 6 (g2 dIx (gLst (gLstN (gConsA (gC (.int (0))) (gConsA (gVar 5) (gConsA (g2 dSub (g1 dNeg (gC (.int (1)))) (g2 dIx (gVar 2) (g2 dMulI (gC (.int (2))) (gVar 4)))) (gConsA (g2 dAddV (g2 dAddV (gVar 5) (gC (.int (1)))) (g2 dIx (gVar 2) (g2 dMulI (gC (.int (2))) (gVar 4)))) gNilA)))))) (g2 dDiv (g2 dIx (gVar 2) (gC (.int (11)))) (gC (.int (2)))))) gSkip)
  (gApp 3 (gCall zax 2 (gConsA (gVar 6) (gConsA (gVar 5) gNilA))))))):=⟨_,rfl⟩
 have one:∀ (i:Nat) (fs:List Fr2) (x y:Option D),i < 4->fs.length=i->∃ (q:Fr2) (x' y':Option D),Fq q /\ bd [some S,some (.int cell),some N,some (.list (fs.map dF)),some (.int (i:Nat)),x,y,s7,s8]=some (.nx [some S,some (.int cell),some N,some (.list ((fs ++ [q]).map dF)),some (.int (i:Nat)),x',y',s7,s8]):=by
  intro i fs x y hi hf
  obtain ⟨a,ga,la,ua⟩:=gt8 (2 * i) (by omega)
  obtain ⟨b,gb,lb,ub⟩:=gt8 (2 * i + 1) (by omega)
  have m2:dMulI (.int 2) (.int (i:Nat))=some (.int ((2 * i:Nat):Int)):=by
   rw [zbm (mulOk (m:=70) (n:=70) (zal (by decide)) (zal (by omega)))]; push_cast; rfl
  have ia:∀ {δ:DS},gVar 2 δ=some N->gVar 4 δ=some (.int (i:Nat))->g2 dIx (gVar 2) (g2 dMulI (gC (.int (2))) (gVar 4)) δ=some (.int a):=fun h2 h4=>zj h2 (zj rfl h4 m2) (ix ga)
  have ib:g2 dIx (gVar 2) (g2 dAddV (g2 dMulI (gC (.int (2))) (gVar 4)) (gC (.int (1)))) [some S,some (.int cell),some N,some (.list (fs.map dF)),some (.int (i:Nat)),x,y,s7,s8]=some (.int b):=zj rfl (zj (zj rfl rfl m2) rfl ((ziR _ _).trans (by rw [show ((2 * i:Nat):Int) + 1=((2 * i + 1:Nat):Int) by push_cast; rfl]))) (ix gb)
  have e5:=zR (i:=5) (zj (f:=dAddV) (a:=gC (.int (1))) rfl ib (ziR 1 b))
  have h0:=Int.emod_nonneg a (show (1 + b) + 1≠0 by omega)
  have h1:=Int.emod_lt_of_pos a (show 0 < (1 + b) + 1 by omega)
  have e6:gSet 6 (g2 dMod (g2 dIx (gVar 2) (g2 dMulI (gC (.int (2))) (gVar 4))) (g2 dAddV (gVar 5) (gC (.int (1))))) [some S,some (.int cell),some N,some (.list (fs.map dF)),some (.int (i:Nat)),some (.int (1 + b)),y,s7,s8]=some (.nx [some S,some (.int cell),some N,some (.list (fs.map dF)),some (.int (i:Nat)),some (.int (1 + b)),some (.int (a % ((1 + b) + 1))),s7,s8]):=zR (zj (ia rfl rfl) (zj rfl rfl rfl) (zcd (by omega)))
  obtain ⟨z,ez,hz⟩:=zlv (a:=0) (b:=1 + b) (c:= -1 - a) (d:=(1 + b) + 1 + a) (n:=n11 / 2) (by omega) (by omega) (by decide) (by omega) (by omega) (by omega)
  obtain ⟨δ',ei,t,rfl,ht⟩:=zls (c:=gAnd (gOr (gB (g2 dEq (g2 dIx (gVar 2) (gC (.int (9)))) (gVar 4))) (gB (g2 dEq (g2 dIx (gVar 2) (gC (.int (10)))) (gVar 4)))) (gB (g2 dEq (g2 dMod (g2 dIx (gVar 2) (gC (.int (11)))) (gC (.int (2)))) (gC (.int (0))))))
   (a:=gSet 6 (g2 dIx (gLst (gLstN (gConsA (gC (.int (0))) (gConsA (gVar 5) (gConsA (g2 dSub (g1 dNeg (gC (.int (1)))) (g2 dIx (gVar 2) (g2 dMulI (gC (.int (2))) (gVar 4)))) (gConsA (g2 dAddV (g2 dAddV (gVar 5) (gC (.int (1)))) (g2 dIx (gVar 2) (g2 dMulI (gC (.int (2))) (gVar 4)))) gNilA)))))) (g2 dDiv (g2 dIx (gVar 2) (gC (.int (11)))) (gC (.int (2))))))
   (δ:=[some S,some (.int cell),some N,some (.list (fs.map dF)),some (.int (i:Nat)),some (.int (1 + b)),some (.int (a % ((1 + b) + 1))),s7,s8]) (Z:=fun δ=>∃ t:Int,δ=[some S,some (.int cell),some N,some (.list (fs.map dF)),some (.int (i:Nat)),some (.int (1 + b)),some (.int t),s7,s8] /\ t.natAbs < 2 ^ 70) _
   (zh0 (or_b (zjx (zj rfl rfl (ix g9)) rfl) (zjx (zj rfl rfl (ix g10)) rfl)) (zjx (zj (zj rfl rfl (ix g11)) rfl (zcd (by decide))) rfl)) ⟨_,rfl,by omega⟩
   ⟨_,zR (zj (zZ (show gLstN _ _=some [.int 0,.int (1 + b),.int (-1 - a),.int ((1 + b) + 1 + a)] by unfold gLstN; rw [zd rfl (zd rfl (zd (zj rfl (ia rfl rfl) rfl) (zd (zj (zj rfl rfl rfl) (ia rfl rfl) rfl) rfl)))]; rfl)) (zj (zj rfl rfl (ix g11)) rfl (dd 2 (by decide) (by decide))) ez),z,rfl,hz⟩
  obtain ⟨_,eq,q,rfl,hq⟩:=zei (t:=t) (b:=1 + b) ht (by omega) (by omega)
  refine ⟨q,some (.int (1 + b)),some (.int t),hq,?_⟩
  rw [hbd,List.map_append]
  exact zY _ e5 (zY _ e6 (zY _ ei (zlU rfl (zq (zd rfl (zd rfl rfl)) rfl eq) (by rw [List.length_map]; omega))))
 obtain ⟨δ4,e4,fs,x5,x6,x4,rfl,hfl,hfq⟩:=zf8 (t:=gName' 4) (b:=bd) (fun k:Nat=>PyData.int (0 + k))
  (fun i δ=>∃ (fs:List Fr2) (x y k:Option D),δ=[some S,some (.int cell),some N,some (.list (fs.map dF)),k,x,y,s7,s8] /\ fs.length=i /\ ∀ q∈fs,Fq q) (List.range 4) (δ:=[some S,some (.int cell),some N,some (.list []),s4,s5,s6,s7,s8]) ⟨[],_,_,_,rfl,rfl,fun q hq=>by cases hq⟩ (by
   rintro i w δ hw ⟨fs,x,y,k,rfl,hfl,hfq⟩
   have hi:i < 4:=by simpa using (List.getElem?_eq_some_iff.mp hw).1
   have hwi:w=i:=by rw [List.getElem?_range hi] at hw; exact (Option.some.inj hw).symm
   subst hwi
   obtain ⟨q,x',y',hq,e⟩:=one w fs x y hi hfl
   rw [Int.zero_add]
   refine ⟨_,_,rfl,e,fs ++ [q],x',y',_,rfl,by rw [List.length_append,hfl]; rfl,fun z hz=>?_⟩
   rcases List.mem_append.mp hz with z1 | z1
   ·exact hfq z z1
   ·rw [List.mem_singleton.mp z1]; exact hq)
 have hfl:fs.length=4:=hfl
 obtain ⟨q0,q1,q2,q3,rfl⟩:∃ a b c d,fs=[a,b,c,d]:=by
  match fs,hfl with
  | [a,b,c,d],_=>exact ⟨a,b,c,d,rfl⟩
 have f0:=hfq q0 (by simp)
 have f1:=hfq q1 (by simp)
 have f2:=hfq q2 (by simp)
 have f3:=hfq q3 (by simp)
 have k0:∀ a b c d:Fr2,dIx (.list ([a,b,c,d].map dF)) (.int 0)=some (dF a):=fun _ _ _ _=>atI0
 have k1:∀ a b c d:Fr2,dIx (.list ([a,b,c,d].map dF)) (.int 1)=some (dF b):=fun _ _ _ _=>atI1
 have k2:∀ a b c d:Fr2,dIx (.list ([a,b,c,d].map dF)) (.int 2)=some (dF c):=fun _ _ _ _=>zba (j:=2) rfl
 have k3:∀ a b c d:Fr2,dIx (.list ([a,b,c,d].map dF)) (.int 3)=some (dF d):=fun _ _ _ _=>zba (j:=3) rfl
 obtain ⟨δ5,e5,r0,r1,r2,r3,rfl,w0,w1,w2,w3⟩:=zls (c:=gAnd (gB (g2 dGt (g2 dIx (gVar 2) (gC (.int (11)))) (gC (.int (4))))) (gB (g2 dGt (g2 dMulI (g2 dIx (g2 dIx (gVar 3) (gC (.int (0)))) (gC (.int (0)))) (g2 dIx (g2 dIx (gVar 3) (gC (.int (2)))) (gC (.int (1))))) (g2 dMulI (g2 dIx (g2 dIx (gVar 3) (gC (.int (2)))) (gC (.int (0)))) (g2 dIx (g2 dIx (gVar 3) (gC (.int (0)))) (gC (.int (1))))))))
  (a:=gSetN 3 (gLstN (gConsA (g2 dIx (gVar 3) (gC (.int (2)))) (gConsA (g2 dIx (gVar 3) (gC (.int (1)))) (gConsA (g2 dIx (gVar 3) (gC (.int (0)))) (gConsA (g2 dIx (gVar 3) (gC (.int (3)))) gNilA))))))
  (δ:=[some S,some (.int cell),some N,some (.list ([q0,q1,q2,q3].map dF)),x4,x5,x6,s7,s8]) (Z:=fun δ=>∃ r0 r1 r2 r3:Fr2,δ=[some S,some (.int cell),some N,some (.list ([r0,r1,r2,r3].map dF)),x4,x5,x6,s7,s8] /\ Fq r0 /\ Fq r1 /\ Fq r2 /\ Fq r3) _
  (zh0 (zbE (zj (zj rfl rfl (ix g11)) rfl rfl)) (zbE (zj (zj (zj (zj rfl rfl (k0 _ _ _ _)) rfl (zaB q0)) (zj (zj rfl rfl (k2 _ _ _ _)) rfl (zaA q2)) (zbm (mulOk f0.tp f2.bb))) (zj (zj (zj rfl rfl (k2 _ _ _ _)) rfl (zaB q2)) (zj (zj rfl rfl (k0 _ _ _ _)) rfl (zaA q0)) (zbm (mulOk f2.tp f0.bb))) rfl))) ⟨q0,q1,q2,q3,rfl,f0,f1,f2,f3⟩
  ⟨_,zlK (show gLstN _ _=some ([q2,q1,q0,q3].map dF) by unfold gLstN; rw [zd (zj rfl rfl (k2 _ _ _ _)) (zd (zj rfl rfl (k1 _ _ _ _)) (zd (zj rfl rfl (k0 _ _ _ _)) (zd (zj rfl rfl (k3 _ _ _ _)) rfl)))]; rfl),q2,q1,q0,q3,rfl,f2,f1,f0,f3⟩
 obtain ⟨zb,_,ezb⟩:=zmq PyData.int [0,-1,25,24,-2 - cell % 10 ^ 30,25 + cell % 10 ^ 30] (Nat.succ_pos _) n8
 obtain ⟨δ7,e7,B,rfl⟩:=zls (c:=gOr (gB (g2 dEq (g2 dIx (gVar 2) (gC (.int (11)))) (gC (.int (3))))) (gB (g2 dEq (g2 dIx (gVar 2) (gC (.int (11)))) (gC (.int (6))))))
  (a:=gSet 7 (g2 dIx (gLst (gLstN (gConsA (gC (.int (0))) (gConsA (g1 dNeg (gC (.int (1)))) (gConsA (gC (.int (25))) (gConsA (gC (.int (24))) (gConsA (g2 dSub (g1 dNeg (gC (.int (2)))) (g2 dMod (gVar 1) (g2 dPow (gC (.int (10))) (gC (.int (30)))))) (gConsA (g2 dAddV (gC (.int (25))) (g2 dMod (gVar 1) (g2 dPow (gC (.int (10))) (gC (.int (30)))))) gNilA)))))))) (g2 dMod (g2 dIx (gVar 2) (gC (.int (8)))) (gC (.int (6))))))
  (δ:=[some S,some (.int cell),some N,some (.list ([r0,r1,r2,r3].map dF)),x4,x5,x6,some (.int (1 + n8 % 12)),s8]) (Z:=fun δ=>∃ B:Int,δ=[some S,some (.int cell),some N,some (.list ([r0,r1,r2,r3].map dF)),x4,x5,x6,some (.int B),s8]) _
  (or_b (zjx (zj rfl rfl (ix g11)) rfl) (zjx (zj rfl rfl (ix g11)) rfl)) ⟨_,rfl⟩
  ⟨_,zR (zj (zZ (show gLstN _ _=some [.int 0,.int (-1),.int 25,.int 24,.int (-2 - cell % 10 ^ 30),.int (25 + cell % 10 ^ 30)] by unfold gLstN; rw [zd rfl (zd rfl (zd rfl (zd rfl (zd (zj rfl (zj rfl (zj rfl rfl p30) (zcd hp0)) rfl) (zd (zj rfl (zj rfl (zj rfl rfl p30) (zcd hp0)) rfl) rfl)))))]; rfl)) (zj (zj rfl rfl (ix g8)) rfl (zcd (by decide))) ezb),zb,rfl⟩
 have va:=zfV w0 w1 w2 w3 B
 have vd:=zhd w0 w1 w2 w3 B
 have vk:=znj r0 r1 r2 r3 B
 generalize dueS r0 r1 r2 r3 B=T at *
 refine ⟨_,[some S,some (.int cell),some N,some (.list ([r0,r1,r2,r3].map dF)),x4,x5,x6,some (.int B),some (.str T)],rfl,?_,_,_,_,_,_,_,_,_,rfl⟩
 refine zY _ st2 (zY [some S,some (.int cell),some N,some (.list []),s4,s5,s6,s7,s8] rfl ?_)
 refine zY _ (by rw [<- hbd]; exact zdS (zbH (n:=4) (zd rfl rfl) (by decide)) e4) (zY _ e5 ?_)
 refine zY [some S,some (.int cell),some N,some (.list ([r0,r1,r2,r3].map dF)),x4,x5,x6,some (.int (1 + n8 % 12)),s8] (zR (zj rfl (zj (zj rfl rfl (ix g8)) rfl (zcd (by decide))) rfl)) (zY _ e7 ?_)
 have args:∀ {s8:Option D},gConsA (g2 dIx (gVar 3) (gC (.int (0)))) (gConsA (g2 dIx (gVar 3) (gC (.int (1)))) (gConsA (g2 dIx (gVar 3) (gC (.int (2)))) (gConsA (g2 dIx (gVar 3) (gC (.int (3)))) (gConsA (gVar 7) gNilA)))) [some S,some (.int cell),some N,some (.list ([r0,r1,r2,r3].map dF)),x4,x5,x6,some (.int B),s8]=some [dF r0,dF r1,dF r2,dF r3,.int B]:=fun {s8}=>zd (zj rfl rfl (k0 _ _ _ _)) (zd (zj rfl rfl (k1 _ _ _ _)) (zd (zj rfl rfl (k2 _ _ _ _)) (zd (zj rfl rfl (k3 _ _ _ _)) (zd rfl rfl))))
 refine zY [some S,some (.int cell),some N,some (.list ([r0,r1,r2,r3].map dF)),x4,x5,x6,some (.int B),some (.str T)] (zR (zq args rfl va)) ?_
 exact zcV (zbE (zj rfl (zq args rfl vd) (zmX (c:=true) (ziW vk vk (beq_self_eq_true T)))))
end MyLaw
namespace MyLaw
open PySem L2 Q1
noncomputable abbrev zdZ:Stmt:=top 21
theorem zge:FnScope ["top","bottom","shared"] ["top","bottom"] (defScope zdZ):=⟨rfl,rfl,rfl,by decide +kernel,rfl,by decide +kernel,by decide +kernel⟩
noncomputable abbrev zdU:Stmt:=top 22
theorem zdi:FnScope ["one","other","shared","one_part","other_part","rest"] ["one","other"] (defScope zdU):=⟨rfl,rfl,rfl,by decide +kernel,rfl,by decide +kernel,by decide +kernel⟩
noncomputable abbrev zcB:Stmt:=top 23
theorem zjS:FnScope ["one","other"] ["one","other"] (defScope zcB):=⟨rfl,rfl,rfl,by decide +kernel,rfl,by decide +kernel,by decide +kernel⟩
noncomputable abbrev zcH:Stmt:=top 24
theorem zbV:FnScope ["one","many","top","bottom","turn"] ["one","many"] (defScope zcH):=⟨rfl,rfl,rfl,by decide +kernel,rfl,by decide +kernel,by decide +kernel⟩
noncomputable abbrev zcD:Stmt:=top 25
theorem zkj:FnScope ["one","other"] ["one","other"] (defScope zcD):=⟨rfl,rfl,rfl,by decide +kernel,rfl,by decide +kernel,by decide +kernel⟩
noncomputable abbrev zM:Stmt:=top 26
theorem zw:FnScope ["one","other","rest","pair"] ["one","other"] (defScope zM):=⟨rfl,rfl,rfl,by decide +kernel,rfl,by decide +kernel,by decide +kernel⟩
noncomputable abbrev zdX:Stmt:=top 27
theorem zbJ:FnScope ["one","other","cut","upper","lower","many","rest"] ["one","other"] (defScope zdX):=⟨rfl,rfl,rfl,by decide +kernel,rfl,by decide +kernel,by decide +kernel⟩
noncomputable abbrev zbp:Stmt:=top 30
theorem zd8:FnScope ["plan","count","draws"] ["plan","count"] (defScope zbp):=⟨rfl,rfl,rfl,by decide +kernel,rfl,by decide +kernel,by decide +kernel⟩
noncomputable abbrev zbc:Stmt:=top 31
theorem zbX:FnScope ["plan","told","draws","place"] ["plan"] (defScope zbc):=⟨rfl,rfl,rfl,by decide +kernel,rfl,by decide +kernel,by decide +kernel⟩
noncomputable abbrev zc7:Stmt:=top 32
theorem zml:FnScope ["plan"] ["plan"] (defScope zc7):=⟨rfl,rfl,rfl,by decide +kernel,rfl,by decide +kernel,by decide +kernel⟩
noncomputable abbrev zaN:Stmt:=top 33
theorem zbt:FnScope ["plan","told","draws","place"] ["plan"] (defScope zaN):=⟨rfl,rfl,rfl,by decide +kernel,rfl,by decide +kernel,by decide +kernel⟩
noncomputable abbrev zae:Stmt:=top 34
theorem zaf:FnScope ["draws_on","places","there","draws","place"] ["draws_on"] (defScope zae):=⟨rfl,rfl,rfl,by decide +kernel,rfl,by decide +kernel,by decide +kernel⟩
noncomputable abbrev zby:Stmt:=top 35
theorem zig:FnScope ["place"] ["place"] (defScope zby):=⟨rfl,rfl,rfl,by decide +kernel,rfl,by decide +kernel,by decide +kernel⟩
noncomputable abbrev zcu:Stmt:=top 36
theorem zj8:FnScope ["count","sign"] ["count","sign"] (defScope zcu):=⟨rfl,rfl,rfl,by decide +kernel,rfl,by decide +kernel,by decide +kernel⟩
noncomputable abbrev zaM:Stmt:=top 39
theorem zaV:FnScope ["plan","beginning","ways","count","many","led"] ["plan","beginning"] (defScope zaM):=⟨rfl,rfl,rfl,by decide +kernel,rfl,by decide +kernel,by decide +kernel⟩
noncomputable abbrev zW:Stmt:=top 42
theorem zbK:FnScope ["low","high"] ["low","high"] (defScope zW):=⟨rfl,rfl,rfl,by decide +kernel,rfl,by decide +kernel,by decide +kernel⟩
noncomputable abbrev zad:Stmt:=top 43
theorem zcs:FnScope ["most"] ["most"] (defScope zad):=⟨rfl,rfl,rfl,by decide +kernel,rfl,by decide +kernel,by decide +kernel⟩
noncomputable abbrev zcE:Stmt:=top 44
theorem zeT:FnScope ["count","share","bad_part","good_part"] ["count","share"] (defScope zcE):=⟨rfl,rfl,rfl,by decide +kernel,rfl,by decide +kernel,by decide +kernel⟩
noncomputable abbrev za9:Stmt:=top 46
theorem zhG:FnScope ["draws"] ["draws"] (defScope za9):=⟨rfl,rfl,rfl,by decide +kernel,rfl,by decide +kernel,by decide +kernel⟩
noncomputable abbrev zcJ:Stmt:=top 47
theorem zkG:FnScope ["is_within_bounds"] ["is_within_bounds"] (defScope zcJ):=⟨rfl,rfl,rfl,by decide +kernel,rfl,by decide +kernel,by decide +kernel⟩
noncomputable abbrev zac:Stmt:=top 49
theorem zA:FnScope ["low","low_most","high","high_most","bound","draws","low_tops","high_tops","bad","is_seldom_wrong"] ["low","low_most","high","high_most","bound"] (defScope zac):=⟨rfl,rfl,rfl,by decide +kernel,rfl,by decide +kernel,by decide +kernel⟩
noncomputable abbrev z4:Stmt:=top 50
theorem zbl:FnScope ["draws","share","plan","ways"] ["draws","share"] (defScope z4):=⟨rfl,rfl,rfl,by decide +kernel,rfl,by decide +kernel,by decide +kernel⟩
noncomputable abbrev zcK:Stmt:=top 51
theorem zkg:FnScope ["tops","draws","share","most"] ["tops","draws","share","most"] (defScope zcK):=⟨rfl,rfl,rfl,by decide +kernel,rfl,by decide +kernel,by decide +kernel⟩
noncomputable abbrev za5:Stmt:=top 53
theorem zf3:FnScope ["_law_script","_law_k"] ["_law_script","_law_k"] (defScope za5):=⟨rfl,rfl,rfl,by decide +kernel,rfl,by decide +kernel,by decide +kernel⟩
noncomputable abbrev zaR:Stmt:=top 55
theorem zbk:FnScope ["_law_cell_here","_law_base","_law_many","_law_row","_law_k","_law_number"] ["_law_cell_here","_law_base","_law_many"] (defScope zaR):=⟨rfl,rfl,rfl,by decide +kernel,rfl,by decide +kernel,by decide +kernel⟩
noncomputable abbrev z7:Stmt:=top 56
theorem zaa:FnScope ["_law_cell_here","_law_bases","_law_row","_law_made","_law_base"] ["_law_cell_here","_law_bases"] (defScope z7):=⟨rfl,rfl,rfl,by decide +kernel,rfl,by decide +kernel,by decide +kernel⟩
noncomputable abbrev zaJ:Stmt:=top 57
theorem zaq:FnScope ["_law_e","_law_named","_law_words"] ["_law_e"] (defScope zaJ):=⟨rfl,rfl,rfl,by decide +kernel,rfl,by decide +kernel,by decide +kernel⟩
noncomputable abbrev zat:Stmt:=top 58
theorem za3:FnScope ["_law_top","_law_bottom","_law_one","_law_other"] ["_law_top","_law_bottom"] (defScope zat):=⟨rfl,rfl,rfl,by decide +kernel,rfl,by decide +kernel,by decide +kernel⟩
noncomputable abbrev zaw:Stmt:=top 59
theorem zbx:FnScope ["_law_low","_law_low_most","_law_high","_law_high_most","_law_bound","_law_found","_law_e"] ["_law_low","_law_low_most","_law_high","_law_high_most","_law_bound"] (defScope zaw):=⟨rfl,rfl,rfl,by decide +kernel,rfl,by decide +kernel,by decide +kernel⟩
noncomputable abbrev zbq:Stmt:=top 60
theorem zd0:FnScope ["_law_low","_law_low_most","_law_high","_law_high_most","_law_bound","_law_most"] ["_law_low","_law_low_most","_law_high","_law_high_most","_law_bound"] (defScope zbq):=⟨rfl,rfl,rfl,by decide +kernel,rfl,by decide +kernel,by decide +kernel⟩
noncomputable abbrev zdH:Stmt:=top 61
theorem zbD:FnScope ["_law_script","_law_cell_here","_law_drawn","_law_four","_law_k","_law_bottom","_law_top","_law_bound","_law_answer_here"] ["_law_script"] (defScope zdH):=⟨rfl,rfl,rfl,by decide +kernel,rfl,by decide +kernel,by decide +kernel⟩
section
variable {P:Program} {w:World} {K:PySem.W.Frag} {mg:Str->Option Value} {base:Heap}
theorem zmv (F:Df K mg "leap" zdX ["one","other"]) (B:Bs mg) (C_WINDOW:Cn mg "WINDOW" (.int (240))) (C_SHED:Cn mg "SHED" (.int (120))):Dn P w K mg base 1 "leap" ["one","other"] (spD K 2 ziE):=
 zam [] zld F zbJ fun f cdv A outer s H E hr=>(zi (zr (zl (i:=2) zbJ.nd rfl (Or.inl rfl) (zn zcM ze1 (PE.sh (ziV (zc (pv 0)))) (PE.sh (ze (zbG C_WINDOW))))))
  (zi (zr (zl (i:=3) zbJ.nd rfl (Or.inl rfl) (zan (za (zn zh9 zp (zc (pv 0)) (zc (pv 2))) (za (ze zf) (za (ze zf) zg))))))
  (zi (zr (zl (i:=4) zbJ.nd rfl (Or.inl rfl) (zan (za (zn zh9 zp (zc (pv 1)) (zc (pv 2))) (za (ze zf) (za (ze zf) zg))))))
  (zi (zcX PassesOwn.never (zP (zjy hr) ziD (PE.sh (zn zh9 zp (PE.sh (zm (zc (pv 4)) (PE.sh (ze zf)))) (PE.sh (ze (zbG C_SHED))))) (PE.sh (ze zf)) (nomark _)) (zi (zr (zl (i:=5) zbJ.nd rfl (Or.inl rfl) (zn zaH zp (PE.sh (zm (zc (pv 3)) (PE.sh (ze zf)))) (PE.sh (zm (zc (pv 4)) (PE.sh (ze zf)))))))
  (zi (zr (zl (i:=6) zbJ.nd rfl (Or.inl rfl) (zan (za (zn zcM ze1 (PE.sh (zm (zc (pv 3)) (PE.sh (ze zf)))) (PE.sh (zn zB zp (zc (pv 5)) (PE.sh (zm (zc (pv 4)) (PE.sh (ze zf))))))) (za (zn zcM ze1 (PE.sh (zm (zc (pv 3)) (PE.sh (ze zf)))) (PE.sh (zn zB zp (zc (pv 5)) (PE.sh (zm (zc (pv 4)) (PE.sh (ze zf))))))) (za (zn zcM ze1 (PE.sh (zm (zc (pv 3)) (PE.sh (ze zf)))) (PE.sh (zn zB zp (zc (pv 5)) (PE.sh (zm (zc (pv 4)) (PE.sh (ze zf))))))) zg))))))
  (zi (zr (zl (i:=3) zbJ.nd rfl (Or.inl rfl) (zh (pv 4))))
  (zk (zr (zl (i:=4) zbJ.nd rfl (Or.inl rfl) (zh (pv 6)))))))))
  (zk (zS (zan (za (zap zce zdF rfl B.abs zfG (zN (PE.sh (zn zK zz (PE.sh (zn zB zp (PE.sh (zm (zc (pv 3)) (PE.sh (ze zf)))) (zc (pv 0)))) (PE.sh (zn zB zp (PE.sh (zm (zc (pv 3)) (PE.sh (ze zf)))) (zc (pv 1)))))) zX)) (za (zap zce zdF rfl B.abs zfG (zN (PE.sh (zn zK zz (PE.sh (zn zB zp (PE.sh (zm (zc (pv 4)) (PE.sh (ze zf)))) (zc (pv 0)))) (PE.sh (zn zB zp (PE.sh (zm (zc (pv 4)) (PE.sh (ze zf)))) (zc (pv 1)))))) zX)) zg)))))))))
theorem zb2 (F:Df K mg "greatest_divisor" zM ["one","other"]) (B:Bs mg) (C_LONG:Cn mg "LONG" (.int (4000))) (D_leap:Dn P w K mg base 1 "leap" ["one","other"] (spD K 2 ziE)):Dn P w K mg base 2 "greatest_divisor" ["one","other"] (spD K 2 zG):=
 zam [] zaF F zw fun f cdv A outer s H E hr=>(zi (zr (zl (i:=0) zw.nd rfl (Or.inl rfl) (zap zce zdF rfl B.abs zfG (zN (zc (pv 0)) zX))))
  (zi (zr (zl (i:=1) zw.nd rfl (Or.inl rfl) (zap zce zdF rfl B.abs zfG (zN (zc (pv 1)) zX))))
  (zi (zcX PassesOwn.never (zP (zjy hr) ziD (zc (pv 1)) (PE.sh (ze zf)) (nomark _)) (zi (zr (zl (i:=2) zw.nd rfl (Or.inl rfl) (zn zaE zp (zc (pv 0)) (zc (pv 1)))))
  (zi (zr (zl (i:=0) zw.nd rfl (Or.inl rfl) (zh (pv 1))))
  (zi (zr (zl (i:=1) zw.nd rfl (Or.inl rfl) (zh (pv 2))))
  (zk (zaZ (zP zjw z8 (PE.sh (ziV (zc (pv 1)))) (PE.sh (ze (zbG C_LONG))) (nomark _)) (zi (zr (zl (i:=3) zw.nd rfl (Or.inl rfl) (zx D_leap hr (by decide) (za (zh (pv 0)) (za (zh (pv 1)) zg)))))
  (zi (zr (zl (i:=0) zw.nd rfl (Or.inl rfl) (zm (zc (pv 3)) (PE.sh (ze zf)))))
  (zk (zr (zl (i:=1) zw.nd rfl (Or.inl rfl) (zm (zc (pv 3)) (PE.sh (ze zf)))))))) z9))))))
  (zk (zS (zh (pv 0)))))))
theorem zlI (F:Df K mg "frac" zdZ ["top","bottom"]) (B:Bs mg) (D_greatest_divisor:Dn P w K mg base 2 "greatest_divisor" ["one","other"] (spD K 2 zG)):Dn P w K mg base 3 "frac" ["top","bottom"] (spD K 2 zfl):=
 zam [] zjE F zge fun f cdv A outer s H E hr=>(zi (zaZ (zP (zco hr) zcc (zc (pv 1)) (PE.sh (ze zf)) (nomark _)) (zk zbW) z9)
  (zi (zr (zl (i:=2) zge.nd rfl (Or.inl rfl) (zx D_greatest_divisor hr (by decide) (za (zh (pv 0)) (za (zh (pv 1)) zg)))))
  (zi (zaZ (zP zfs z8 (zc (pv 1)) (PE.sh (ze zf)) (nomark _)) (zk (zr (zl (i:=2) zge.nd rfl (Or.inl rfl) (zea (zc (pv 2)))))) z9)
  (zk (zS (zan (za (zn zaH zp (zc (pv 0)) (zc (pv 2))) (za (zn zaH zp (zc (pv 1)) (zc (pv 2))) zg))))))))
theorem zlO (F:Df K mg "plus" zdU ["one","other"]) (B:Bs mg) (D_frac:Dn P w K mg base 3 "frac" ["top","bottom"] (spD K 2 zfl)) (D_greatest_divisor:Dn P w K mg base 2 "greatest_divisor" ["one","other"] (spD K 2 zG)):Dn P w K mg base 4 "plus" ["one","other"] (spD K 2 zfy):=
 zam [] zif F zdi fun f cdv A outer s H E hr=>(zi (zr (zl (i:=2) zdi.nd rfl (Or.inl rfl) (zx D_greatest_divisor hr (by decide) (za (zm (zc (pv 0)) (PE.sh (ze zf))) (za (zm (zc (pv 1)) (PE.sh (ze zf))) zg)))))
  (zi (zr (zl (i:=3) zdi.nd rfl (Or.inl rfl) (zn zaH zp (PE.sh (zm (zc (pv 0)) (PE.sh (ze zf)))) (zc (pv 2)))))
  (zi (zr (zl (i:=4) zdi.nd rfl (Or.inl rfl) (zn zaH zp (PE.sh (zm (zc (pv 1)) (PE.sh (ze zf)))) (zc (pv 2)))))
  (zi (zr (zl (i:=5) zdi.nd rfl (Or.inl rfl) (zx D_frac hr (by decide) (za (zn zK zz (PE.sh (zn zB zp (PE.sh (zm (zc (pv 0)) (PE.sh (ze zf)))) (zc (pv 4)))) (PE.sh (zn zB zp (PE.sh (zm (zc (pv 1)) (PE.sh (ze zf)))) (zc (pv 3))))) (za (zh (pv 2)) zg)))))
  (zk (zS (zan (za (zm (zc (pv 5)) (PE.sh (ze zf))) (za (zn zB zp (PE.sh (zn zB zp (zc (pv 3)) (zc (pv 4)))) (PE.sh (zm (zc (pv 5)) (PE.sh (ze zf))))) zg)))))))))
theorem zkw (F:Df K mg "minus" zcB ["one","other"]) (B:Bs mg) (D_plus:Dn P w K mg base 4 "plus" ["one","other"] (spD K 2 zfy)):Dn P w K mg base 5 "minus" ["one","other"] (spD K 2 zdk):=
 zam [] zgc F zjS fun f cdv A outer s H E hr=>(zk (zS (zx D_plus hr (by decide) (za (zh (pv 0)) (za (zan (za (zea (PE.sh (zm (zc (pv 1)) (PE.sh (ze zf))))) (za (zm (zc (pv 1)) (PE.sh (ze zf))) zg))) zg)))))
theorem zky (F:Df K mg "power" zcH ["one","many"]) (B:Bs mg):Dn P w K mg base 1 "power" ["one","many"] (spD K 2 zbv):=
 zam [] zfZ F zbV fun f cdv A outer s H E hr=>(zi (zr (zl (i:=2) zbV.nd rfl (Or.inl rfl) (ze zf)))
  (zi (zr (zl (i:=3) zbV.nd rfl (Or.inl rfl) (ze zf)))
  (zi (zbg PassesOwn.never rfl (zbr B.range (za (zh (pv 1)) zg)) (zC (zO (i:=4) zbV.nd rfl (Or.inl rfl)))
   (zi (zr (zl (i:=2) zbV.nd rfl (Or.inl rfl) (zn zB zp (zc (pv 2)) (PE.sh (zm (zc (pv 0)) (PE.sh (ze zf)))))))
  (zk (zr (zl (i:=3) zbV.nd rfl (Or.inl rfl) (zn zB zp (zc (pv 3)) (PE.sh (zm (zc (pv 0)) (PE.sh (ze zf))))))))))
  (zk (zS (zan (za (zh (pv 2)) (za (zh (pv 3)) zg))))))))
theorem zkf (F:Df K mg "under" zcD ["one","other"]) (B:Bs mg):Dn P w K mg base 1 "under" ["one","other"] (spD K 2 zD):=
 zam [] zgA F zkj fun f cdv A outer s H E hr=>(zk (zS (zij zfs z8 (PE.sh (zn zB zp (PE.sh (zm (zc (pv 0)) (PE.sh (ze zf)))) (PE.sh (zm (zc (pv 1)) (PE.sh (ze zf)))))) (PE.sh (zn zB zp (PE.sh (zm (zc (pv 1)) (PE.sh (ze zf)))) (PE.sh (zm (zc (pv 0)) (PE.sh (ze zf)))))) (nomark _))))
theorem zhl (F:Df K mg "goes_on" zbp ["plan","count"]) (B:Bs mg):Dn P w K mg base 1 "goes_on" ["plan","count"] (spD K 2 zbo):=
 zam [] zdE F zd8 fun f cdv A outer s H E hr=>(zi (zr (zl (i:=2) zd8.nd rfl (Or.inl rfl) (zn zK zz (PE.sh (zm (zc (pv 1)) (PE.sh (ze zf)))) (PE.sh (zm (zc (pv 1)) (PE.sh (ze zf)))))))
  (zk (zS (zm1 (zeH zdO z8 zfs z8 (PE.sh (ze zf)) (zc (pv 2)) (PE.sh (zap zbn zcz rfl B.len zd6 (zN (zc (pv 0)) zX)))) (zof (zij zn8 znI (PE.sh (zm (zc (pv 1)) (PE.sh (ze zf)))) (PE.sh (zm (zc (pv 0)) (zc (pv 2)))) (by with_unfolding_all rfl)))))))
theorem zfi (F:Df K mg "led_to" zby ["place"]) (B:Bs mg):Dn P w K mg base 1 "led_to" ["place"] (spN K 1 zaT):=
 zb1 [] zep F zig fun f cdv A outer s H E hr=>(zk (zeL (zhj B.sorted B.set (PE.sh (PE.nE (zd4 zb0 zb6 (PE.sh (PE.nE (zhb zfb zkI rfl B.list zmR (zN (zc (pv 0)) zX)))) (PE.sh (PE.nE (PE.asC (zbY (defScope zby) ["place"] [] ["bad"] ["bad"] own1 (PI.c (za7 (zh (pv 0)))) (fun _ _ _ _ _ _=>(zC (zO (i:=0) (show (["bad"]:List Str).Nodup from by decide +kernel) rfl (Or.inl rfl)))) (fun _ _ _ _ _ _=>zdf) (fun _ _ _ _ _ _=>(zn zK zz (zc (pv 0)) (PE.sh (ze zf))))))))))))))
theorem zhh (F:Df K mg "come_to" zbc ["plan"]) (B:Bs mg) (D_led_to:Dn P w K mg base 1 "led_to" ["place"] (spN K 1 zaT)):Dn P w K mg base 2 "come_to" ["plan"] (spN K 1 zbb):=
 zb1 [1] zdp F zbX fun f cdv A outer s H E hr=>(zi (zb8 (zl (i:=1) zbX.nd rfl (Or.inl rfl) (zaD (za (zan (za (ze zf) (za (ze zf) zg))) zg))))
  (zi (zbg PassesOwn.never rfl (zj6 B.enumerate (zh (pv 0))) (zie rfl (zcZ (zC (zO (i:=2) zbX.nd rfl (Or.inr rfl))) (zcZ (zC (zO (i:=3) zbX.nd rfl (Or.inl rfl))) zjk)))
   (zk (zfI (zaL (zf6 PySem.F.plainAttrs_list PySem.F.slot_list_extend PySem.F.type_list_extend zfE (pv 1) (zab (PE.asC (zbY (defScope zbc) ["plan","told","draws","place"] [2] ["bad","draws"] ["bad"] own1 (PI.c (za7 (PE.nE (zaI D_led_to hr (by decide) (za (zh (pv 3)) zg))))) (fun _ _ _ _ _ _=>(zC (zO (i:=0) (show (["bad","draws"]:List Str).Nodup from by decide +kernel) rfl (Or.inl rfl)))) (fun _ _ _ _ _ _=>zdf) (fun _ _ _ _ _ _=>(zan (za (zh (pv 0)) (za (zn zcM ze1 (zc (pv 1)) (zc (pv 0))) zg)))))) za0))))))
  (zk (zbP (pv 1)))))
theorem zlo (F:Df K mg "ends" zc7 ["plan"]) (B:Bs mg) (D_come_to:Dn P w K mg base 2 "come_to" ["plan"] (spN K 1 zbb)) (D_goes_on:Dn P w K mg base 1 "goes_on" ["plan","count"] (spD K 2 zbo)):Dn P w K mg base 3 "ends" ["plan"] (spN K 1 zdo):=
 zb1 [] zi6 F zml fun f cdv A outer s H E hr=>(zk (zeL (zbY (defScope zc7) ["plan"] [0] ["count","plan"] ["count"] own1 (PI.c (za7 (PE.nE (zaI D_come_to hr (by decide) (za (zh (pv 0)) zg))))) (fun _ _ _ _ _ _=>(zC (zO (i:=0) (show (["count","plan"]:List Str).Nodup from by decide +kernel) rfl (Or.inl rfl)))) (fun _ _ _ _ _ _=>(zhL (zb7 (zI (PE.sh (zx D_goes_on hr (by decide) (za (zh (pv 1)) (za (zh (pv 0)) zg)))))))) (fun _ _ _ _ _ _=>(zh (pv 0))))))
theorem zgp (F:Df K mg "drawn_on" zaN ["plan"]) (B:Bs mg):Dn P w K mg base 1 "drawn_on" ["plan"] (spN K 1 za4):=
 zb1 [1] zcI F zbt fun f cdv A outer s H E hr=>(zi (zb8 (zl (i:=1) zbt.nd rfl (Or.inl rfl) (zaD zg)))
  (zi (zbg PassesOwn.never rfl (zkp B.enumerate (zh (pv 0))) (zie rfl (zcZ (zC (zO (i:=2) zbt.nd rfl (Or.inr rfl))) (zcZ (zC (zO (i:=3) zbt.nd rfl (Or.inl rfl))) zjk)))
   (zk (zfI (zaL (zf6 PySem.F.plainAttrs_list PySem.F.slot_list_extend PySem.F.type_list_extend zfE (pv 1) (zab (PE.asC (zbY (defScope zaN) ["plan","told","draws","place"] [2] ["bad","draws"] ["bad"] own1 (PI.c (za7 (zh (pv 3)))) (fun _ _ _ _ _ _=>(zC (zO (i:=0) (show (["bad","draws"]:List Str).Nodup from by decide +kernel) rfl (Or.inl rfl)))) (fun _ _ _ _ _ _=>zdf) (fun _ _ _ _ _ _=>(zan (za (zh (pv 0)) (za (zn zcM ze1 (zc (pv 1)) (zc (pv 0))) zg)))))) za0))))))
  (zk (zbP (pv 1)))))
theorem zeq (F:Df K mg "plan_while" zae ["draws_on"]) (B:Bs mg) (C_MOST_PLACES:Cn mg "MOST_PLACES" (.int (24))) {f c:Addr} {q:Str} {G:List D->Option D} (C:Clo P w K mg base 2 f c q 2 G) (D_led_to:Dn P w K mg base 1 "led_to" ["place"] (spN K 1 zaT)):Dn P w K mg base 4 "plan_while" ["draws_on"] (spD K 1 (zau f c q G)):=
 zam [1] (zbL f c q G) F zaf fun _ _ _ _ _ _ _ hr=>(zi (zb8 (zl (i:=1) zaf.nd rfl (Or.inl rfl) (zaD zg)))
  (zi (zr (zl (i:=2) zaf.nd rfl (Or.inl rfl) (PE.nE (zaD (za (ze zf) zg)))))
  (zk (zcX PassesOwn.never (zI (PE.sh (zmw zmn))) (zi (zr (zl (i:=3) zaf.nd rfl (Or.inr rfl) (zap zbn zcz rfl B.len zd6 (zN (zc (pv 1)) zX))))
  (zi (zr (PS.nE (zkP (i:=4) (defScope zae) ["draws_on","places","there","draws","place"] [0,3] ["bad","draws_on","draws"] ["bad"] zaf.nd rfl rfl own1 (PI.c (za7 (zh (pv 2)))) (fun _ _ _ _ _ _=>(zC (zO (i:=0) (show (["bad","draws_on","draws"]:List Str).Nodup from by decide +kernel) rfl (Or.inl rfl)))) (fun _ _ _ _ _ _=>(zhL (zI (PE.sh (zj0 (i:=1) C hr (by decide) (za (zh (pv 0)) (za (zh (pv 2)) zg))))))) (fun _ _ _ _ _ _=>(zh (pv 0))))))
  (zi (zaZ (zP (zco hr) zcc (PE.sh (zap zbn zcz rfl B.len zd6 (zN (zc (pv 4)) zX))) (PE.sh (ze zf)) (nomark _)) (zk (zS (zdw zcl ze8 rfl B.tuple zeR (zN (zc (pv 1)) zX)))) z9)
  (zi (zaZ (zP (zco hr) zcc (zc (pv 3)) (PE.sh (ze (zbG C_MOST_PLACES))) (nomark _)) (zk zbW) z9)
  (zi (zck (zaL (zf6 PySem.F.plainAttrs_list PySem.F.slot_list_append PySem.F.type_list_append zcq (pv 1) (zab (zdw zcl ze8 rfl B.tuple zeR (zN (zc (pv 4)) zX)) za0))))
  (zk (zr (zl (i:=2) zaf.nd rfl (Or.inl rfl) (PE.nE (zaI D_led_to hr (by decide) (za (zh (pv 4)) zg)))))))))))))))
theorem zko (F:Df K mg "after" zcu ["count","sign"]) (B:Bs mg):Dn P w K mg base 1 "after" ["count","sign"] (spD K 2 zbd):=
 zam [] zgq F zj8 fun f cdv A outer s H E hr=>(zi (zaZ (zP (zco hr) zcc (zc (pv 1)) (PE.sh (zbC za8)) (nomark _)) (zk (zS (zan (za (zn zK zz (PE.sh (zm (zc (pv 0)) (PE.sh (ze zf)))) (PE.sh (ze zf))) (za (zm (zc (pv 0)) (PE.sh (ze zf))) zg))))) z9)
  (zk (zS (zan (za (zm (zc (pv 0)) (PE.sh (ze zf))) (za (zn zK zz (PE.sh (zm (zc (pv 0)) (PE.sh (ze zf)))) (PE.sh (ze zf))) zg))))))
theorem ze4 (F:Df K mg "ways_from" zaM ["plan","beginning"]) (B:Bs mg) (D_after:Dn P w K mg base 1 "after" ["count","sign"] (spD K 2 zbd)) (D_drawn_on:Dn P w K mg base 1 "drawn_on" ["plan"] (spN K 1 za4)):Dn P w K mg base 2 "ways_from" ["plan","beginning"] (spD K 2 zaP):=
 zam [2] zb3 F zaV fun f cdv A outer s H E hr=>let hu:=Nat.lt_of_le_of_lt (Nat.add_le_add_left (show 1<=64 by decide) _) hr.units
  (zi (zmK (zl (i:=2) zaV.nd rfl (Or.inl rfl) (zkv hu (zc (pv 1)) (ze zf))))
  (zi (zbg PassesOwn.never rfl (za7 (PE.nE (zaI D_drawn_on hr (by decide) (za (zh (pv 0)) zg)))) (zC (zO (i:=3) zaV.nd rfl (Or.inl rfl)))
   (zi (zr (zl (i:=4) zaV.nd rfl (Or.inl rfl) (zgI hu (zc (pv 2)) (zc (pv 3)) (ze zf))))
  (zk (zbg PassesOwn.never rfl (za7 (zan (za (zx D_after hr (by decide) (za (zh (pv 3)) (za (zbC za8) zg))) (za (zx D_after hr (by decide) (za (zh (pv 3)) (za (zbC za8) zg))) zg)))) (zC (zO (i:=5) zaV.nd rfl (Or.inl rfl)))
   (zk (zmt (zmL hu (pv 2) (zc (pv 5)) (zn zK zz (PE.sh (zgI hu (zc (pv 2)) (zc (pv 5)) (ze zf))) (zc (pv 4))) (by rfl))))))))
  (zk (zbP (pv 2)))))
theorem zcU (F:Df K mg "check_shares" zW ["low","high"]) (B:Bs mg) {pNOUGHT:Addr} (C_NOUGHT:Cn mg "NOUGHT" (.ref pNOUGHT)) (M_NOUGHT:(pNOUGHT,[V.int (0),V.int (1)])∈cstTab) {pWHOLE:Addr} (C_WHOLE:Cn mg "WHOLE" (.ref pWHOLE)) (M_WHOLE:(pWHOLE,[V.int (1),V.int (1)])∈cstTab) (X_NoShares:∃ C tl,ExC K mg "NoShares" C VE tl "ValueError.__new__") (D_under:Dn P w K mg base 1 "under" ["one","other"] (spD K 2 zD)):DnR P w K mg base 2 "check_shares" ["low","high"] (spR K mg 2 zaj):=by
 obtain ⟨_,_,X_NoShares⟩:=X_NoShares; exact zgx [] zak F zbK fun f cdv A outer s H E hr=>(zk (zaZ (zb7 (PW.pt (zbI (zI (PE.sh (zx D_under hr (by decide) (za (zeh (zbG C_NOUGHT) M_NOUGHT (fun _=>(.cons (.int _) (.cons (.int _) .nil)))) (za (zh (pv 0)) zg))))) (zbI (zI (PE.sh (zx D_under hr (by decide) (za (zh (pv 0)) (za (zh (pv 1)) zg))))) (zcv (zI (PE.sh (zx D_under hr (by decide) (za (zh (pv 1)) (za (zeh (zbG C_WHOLE) M_WHOLE (fun _=>(.cons (.int _) (.cons (.int _) .nil)))) zg)))))))))) (zk (zeI X_NoShares PySem.F.excBase_ValueError (by decide) PySem.F.excBase_ValueError za8)) z9))
theorem zdz (F:Df K mg "check_shares" zW ["low","high"]) (B:Bs mg) {pNOUGHT:Addr} (C_NOUGHT:Cn mg "NOUGHT" (.ref pNOUGHT)) (M_NOUGHT:(pNOUGHT,[V.int (0),V.int (1)])∈cstTab) {pWHOLE:Addr} (C_WHOLE:Cn mg "WHOLE" (.ref pWHOLE)) (M_WHOLE:(pWHOLE,[V.int (1),V.int (1)])∈cstTab) (D_under:Dn P w K mg base 1 "under" ["one","other"] (spD K 2 zD)):Dn P w K mg base 2 "check_shares" ["low","high"] (spD K 2 zai):=
 zam [] zaS F zbK fun f cdv A outer s H E hr=>(zk (zaZ (zb7 (PW.pt (zbI (zI (PE.sh (zx D_under hr (by decide) (za (zeh (zbG C_NOUGHT) M_NOUGHT (fun _=>(.cons (.int _) (.cons (.int _) .nil)))) (za (zh (pv 0)) zg))))) (zbI (zI (PE.sh (zx D_under hr (by decide) (za (zh (pv 0)) (za (zh (pv 1)) zg))))) (zcv (zI (PE.sh (zx D_under hr (by decide) (za (zh (pv 1)) (za (zeh (zbG C_WHOLE) M_WHOLE (fun _=>(.cons (.int _) (.cons (.int _) .nil)))) zg)))))))))) (zk zbW) z9))
theorem zdI (F:Df K mg "check_most" zad ["most"]) (B:Bs mg) {pNOUGHT:Addr} (C_NOUGHT:Cn mg "NOUGHT" (.ref pNOUGHT)) (M_NOUGHT:(pNOUGHT,[V.int (0),V.int (1)])∈cstTab) {pWHOLE:Addr} (C_WHOLE:Cn mg "WHOLE" (.ref pWHOLE)) (M_WHOLE:(pWHOLE,[V.int (1),V.int (1)])∈cstTab) (X_NoShares:∃ C tl,ExC K mg "NoShares" C VE tl "ValueError.__new__") (D_under:Dn P w K mg base 1 "under" ["one","other"] (spD K 2 zD)):DnR P w K mg base 2 "check_most" ["most"] (spR K mg 1 zay):=by
 obtain ⟨_,_,X_NoShares⟩:=X_NoShares; exact zgx [] zaX F zcs fun f cdv A outer s H E hr=>(zk (zaZ (PW.pt (zcS (zI (PE.sh (zx D_under hr (by decide) (za (zh (pv 0)) (za (zeh (zbG C_NOUGHT) M_NOUGHT (fun _=>(.cons (.int _) (.cons (.int _) .nil)))) zg))))) (zdx (zI (PE.sh (zx D_under hr (by decide) (za (zeh (zbG C_WHOLE) M_WHOLE (fun _=>(.cons (.int _) (.cons (.int _) .nil)))) (za (zh (pv 0)) zg)))))))) (zk (zeI X_NoShares PySem.F.excBase_ValueError (by decide) PySem.F.excBase_ValueError za8)) z9))
theorem zem (F:Df K mg "check_most" zad ["most"]) (B:Bs mg) {pNOUGHT:Addr} (C_NOUGHT:Cn mg "NOUGHT" (.ref pNOUGHT)) (M_NOUGHT:(pNOUGHT,[V.int (0),V.int (1)])∈cstTab) {pWHOLE:Addr} (C_WHOLE:Cn mg "WHOLE" (.ref pWHOLE)) (M_WHOLE:(pWHOLE,[V.int (1),V.int (1)])∈cstTab) (D_under:Dn P w K mg base 1 "under" ["one","other"] (spD K 2 zD)):Dn P w K mg base 2 "check_most" ["most"] (spD K 1 zav):=
 zam [] zbh F zcs fun f cdv A outer s H E hr=>(zk (zaZ (PW.pt (zcS (zI (PE.sh (zx D_under hr (by decide) (za (zh (pv 0)) (za (zeh (zbG C_NOUGHT) M_NOUGHT (fun _=>(.cons (.int _) (.cons (.int _) .nil)))) zg))))) (zdx (zI (PE.sh (zx D_under hr (by decide) (za (zeh (zbG C_WHOLE) M_WHOLE (fun _=>(.cons (.int _) (.cons (.int _) .nil)))) (za (zh (pv 0)) zg)))))))) (zk zbW) z9))
theorem zj7 (F:Df K mg "often" zcE ["count","share"]) (B:Bs mg) {pWHOLE:Addr} (C_WHOLE:Cn mg "WHOLE" (.ref pWHOLE)) (M_WHOLE:(pWHOLE,[V.int (1),V.int (1)])∈cstTab) (D_minus:Dn P w K mg base 5 "minus" ["one","other"] (spD K 2 zdk)) (D_power:Dn P w K mg base 1 "power" ["one","many"] (spD K 2 zbv)):Dn P w K mg base 6 "often" ["count","share"] (spD K 2 zcL):=
 zam [] zgt F zeT fun f cdv A outer s H E hr=>(zi (zr (zl (i:=2) zeT.nd rfl (Or.inl rfl) (zx D_power hr (by decide) (za (zh (pv 1)) (za (zm (zc (pv 0)) (PE.sh (ze zf))) zg)))))
  (zi (zr (zl (i:=3) zeT.nd rfl (Or.inl rfl) (zx D_power hr (by decide) (za (zx D_minus hr (by decide) (za (zeh (zbG C_WHOLE) M_WHOLE (fun _=>(.cons (.int _) (.cons (.int _) .nil)))) (za (zh (pv 1)) zg))) (za (zm (zc (pv 0)) (PE.sh (ze zf))) zg)))))
  (zk (zS (zan (za (zn zB zp (PE.sh (zm (zc (pv 2)) (PE.sh (ze zf)))) (PE.sh (zm (zc (pv 3)) (PE.sh (ze zf))))) (za (zn zB zp (PE.sh (zm (zc (pv 2)) (PE.sh (ze zf)))) (PE.sh (zm (zc (pv 3)) (PE.sh (ze zf))))) zg)))))))
theorem zkm (F:Df K mg "check" zcJ ["is_within_bounds"]) (B:Bs mg):Dn P w K mg base 1 "check" ["is_within_bounds"] (spD K 1 zdC):=
 zam [] zf7 F zkG fun f cdv A outer s H E hr=>(zk (zaZ (zb7 (zI (zc (pv 0)))) (zk zbW) z9))
theorem zhn {c0 P0:Addr} (F:DfC K mg "so_many" za9 ["draws"] c0) (B:Bs mg) (C_MOST_PLACES:Cn mg "MOST_PLACES" (.int (24))) (HD:PySem.W.codeHdIn K c0 P0=true) (ML:(P0,(⟨143,22,143,56⟩:Pos),("so_many.<locals>.<lambda>":Str))∈lamTab) (BB:BAt mg base) (DC_plan_while:DnC P w K mg 4 2 2 "plan_while" "draws_on" zau) (D_check:Dn P w K mg base 1 "check" ["is_within_bounds"] (spD K 1 zdC)):Dn P w K mg base 5 "so_many" ["draws"] (spD K 1 zbQ):=
 zmg [] zdb F zhG fun f A outer s H E hr=>(zi (zeC (zaL (zx D_check hr (by decide) (za (zeH zdO z8 zdO z8 (PE.sh (ze zf)) (zc (pv 0)) (PE.sh (ze (zbG C_MOST_PLACES)))) zg))))
  (zk (zS (zow (kc:=1) (ps:=["found","drawn"]) (fv:=["draws"]) (ix:=[0]) (defScope za9) DC_plan_while hr (by decide) BB HD ML ⟨rfl,rfl,rfl,by decide +kernel,by decide +kernel,by decide +kernel,by decide +kernel⟩ (fun base f c' cl A outer s H E hr=>(zij zfs z8 (zc (pv 1)) (zc (pv 2)) (nomark _))) (fun _ _ _ _ _ _ us hl=>match us,hl with | [_,_],_=>rfl)))))
theorem zkq (F:Df K mg "keeps" zcK ["tops","draws","share","most"]) (B:Bs mg) (D_power:Dn P w K mg base 1 "power" ["one","many"] (spD K 2 zbv)) (D_under:Dn P w K mg base 1 "under" ["one","other"] (spD K 2 zD)):Dn P w K mg base 2 "keeps" ["tops","draws","share","most"] (spD K 4 zaQ):=
 zam [] zgz F zkg fun f cdv A outer s H E hr=>(zk (zS (zn5 (PE.sh (zx D_under hr (by decide) (za (zh (pv 3)) (za (zan (za (zap (zja rfl) zmM rfl B.sum znR (zN (zc (pv 0)) zX)) (za (zm (PE.sh (zx D_power hr (by decide) (za (zh (pv 2)) (za (zh (pv 1)) zg)))) (PE.sh (ze zf))) zg))) zg)))))))
theorem zdK (F:Df K mg "tops_by_bad" z4 ["draws","share"]) (B:Bs mg) (D_ends:Dn P w K mg base 3 "ends" ["plan"] (spN K 1 zdo)) (D_often:Dn P w K mg base 6 "often" ["count","share"] (spD K 2 zcL)) (D_so_many:Dn P w K mg base 5 "so_many" ["draws"] (spD K 1 zbQ)) (D_ways_from:Dn P w K mg base 2 "ways_from" ["plan","beginning"] (spD K 2 zaP)):Dn P w K mg base 7 "tops_by_bad" ["draws","share"] (spN K 2 zF):=
 zb1 [] zbz F zbl fun f cdv A outer s H E hr=>let hu:=Nat.lt_of_le_of_lt (Nat.add_le_add_left (show 1<=64 by decide) _) hr.units
  (zi (zr (zl (i:=2) zbl.nd rfl (Or.inl rfl) (zx D_so_many hr (by decide) (za (zh (pv 0)) zg))))
  (zi (zr (zl (i:=3) zbl.nd rfl (Or.inr rfl) (zx D_ways_from hr (by decide) (za (zh (pv 2)) (za (zan (za (ze zf) (za (ze zf) zg))) zg)))))
  (zk (zeL (PE.asC (zbY (defScope z4) ["draws","share","plan","ways"] [3,1] ["end","ways","share"] ["end"] own1 (PI.c (za7 (PE.nE (zaI D_ends hr (by decide) (za (zh (pv 2)) zg))))) (fun _ _ _ _ _ _=>(zC (zO (i:=0) (show (["end","ways","share"]:List Str).Nodup from by decide +kernel) rfl (Or.inl rfl)))) (fun _ _ _ _ _ _=>zdf) (fun _ _ _ _ _ _=>(zn zB zp (PE.sh (zmm hu (zc (pv 1)) (zc (pv 0)))) (PE.sh (zm (PE.sh (zx D_often hr (by decide) (za (zh (pv 0)) (za (zh (pv 2)) zg)))) (PE.sh (ze zf))))))))))))
theorem zdL (F:Df K mg "least_plan" zac ["low","low_most","high","high_most","bound"]) (B:Bs mg) (C_MOST_PLACES:Cn mg "MOST_PLACES" (.int (24))) (X_TooLong:∃ C tl,ExC K mg "TooLong" C VE tl "ValueError.__new__") (DR_check_most:DnR P w K mg base 2 "check_most" ["most"] (spR K mg 1 zay)) (DR_check_shares:DnR P w K mg base 2 "check_shares" ["low","high"] (spR K mg 2 zaj)) (D_keeps:Dn P w K mg base 2 "keeps" ["tops","draws","share","most"] (spD K 4 zaQ)) (D_tops_by_bad:Dn P w K mg base 7 "tops_by_bad" ["draws","share"] (spN K 2 zF)):DnR P w K mg base 8 "least_plan" ["low","low_most","high","high_most","bound"] (spR K mg 5 zV):=by
 obtain ⟨_,_,X_TooLong⟩:=X_TooLong; exact zgx [] zL F zA fun f cdv A outer s H E hr=>(zi (zex (zaL (zc4 DR_check_shares hr (by decide) zi1 (za (zh (pv 0)) (za (zh (pv 2)) zg)))))
  (zi (zex (zaL (zc4 DR_check_most hr (by decide) zi1 (za (zh (pv 1)) zg))))
  (zi (zex (zaL (zc4 DR_check_most hr (by decide) zi1 (za (zh (pv 3)) zg))))
  (zi (zaZ (zb7 (zc5 zdO z8 zdO z8 (PE.sh (ze zf)) (zc (pv 4)) (PE.sh (ze (zbG C_MOST_PLACES))))) (zk (zeI X_TooLong PySem.F.excBase_ValueError (by decide) PySem.F.excBase_ValueError za8)) z9)
  (zi (zbg PassesOwn.leaving rfl (zfq B.range (za (ze zf) (za (zn zK zz (zc (pv 4)) (PE.sh (ze zf))) zg))) (zC (zO (i:=5) zA.nd rfl (Or.inl rfl)))
   (zi (zr (zl (i:=6) zA.nd rfl (Or.inl rfl) (PE.nE (zaI D_tops_by_bad hr (by decide) (za (zh (pv 5)) (za (zh (pv 0)) zg))))))
  (zi (zr (zl (i:=7) zA.nd rfl (Or.inl rfl) (PE.nE (zaI D_tops_by_bad hr (by decide) (za (zh (pv 5)) (za (zh (pv 2)) zg))))))
  (zk (zbg PassesOwn.leaving rfl (zbr B.range (za (zn zK zz (zc (pv 5)) (PE.sh (ze zf))) zg)) (zC (zO (i:=8) zA.nd rfl (Or.inl rfl)))
   (zi (zr (zl (i:=9) zA.nd rfl (Or.inl rfl) (zx D_keeps hr (by decide) (za (PE.nE (zfN (zc (pv 6)) (zcg (PE.sh (zn zK zz (zc (pv 8)) (PE.sh (ze zf))))) zcn)) (za (zh (pv 5)) (za (zh (pv 0)) (za (zh (pv 1)) zg)))))))
  (zk (zaZ (PW.pt (zbI (zI (zc (pv 9))) (zcv (zI (PE.sh (zx D_keeps hr (by decide) (za (PE.nE (zfN (zc (pv 7)) zcn (zcg (PE.sh (zn zK zz (zc (pv 8)) (PE.sh (ze zf))))))) (za (zh (pv 5)) (za (zh (pv 2)) (za (zh (pv 3)) zg)))))))))) (zk (zS (zan (za (zh (pv 5)) (za (zh (pv 8)) zg))))) z9))))))))
  (zk (zS (zjD zhJ))))))))
theorem zeN (F:Df K mg "least_plan" zac ["low","low_most","high","high_most","bound"]) (B:Bs mg) (C_MOST_PLACES:Cn mg "MOST_PLACES" (.int (24))) (D_check_most:Dn P w K mg base 2 "check_most" ["most"] (spD K 1 zav)) (D_check_shares:Dn P w K mg base 2 "check_shares" ["low","high"] (spD K 2 zai)) (D_keeps:Dn P w K mg base 2 "keeps" ["tops","draws","share","most"] (spD K 4 zaQ)) (D_tops_by_bad:Dn P w K mg base 7 "tops_by_bad" ["draws","share"] (spN K 2 zF)):Dn P w K mg base 8 "least_plan" ["low","low_most","high","high_most","bound"] (spD K 5 zbR):=
 zam [] zaU F zA fun f cdv A outer s H E hr=>(zi (zeC (zaL (zx D_check_shares hr (by decide) (za (zh (pv 0)) (za (zh (pv 2)) zg)))))
  (zi (zeC (zaL (zx D_check_most hr (by decide) (za (zh (pv 1)) zg))))
  (zi (zeC (zaL (zx D_check_most hr (by decide) (za (zh (pv 3)) zg))))
  (zi (zaZ (zb7 (zc5 zdO z8 zdO z8 (PE.sh (ze zf)) (zc (pv 4)) (PE.sh (ze (zbG C_MOST_PLACES))))) (zk zbW) z9)
  (zi (zbg PassesOwn.never rfl (zfq B.range (za (ze zf) (za (zn zK zz (zc (pv 4)) (PE.sh (ze zf))) zg))) (zC (zO (i:=5) zA.nd rfl (Or.inl rfl)))
   (zi (zr (zl (i:=6) zA.nd rfl (Or.inl rfl) (PE.nE (zaI D_tops_by_bad hr (by decide) (za (zh (pv 5)) (za (zh (pv 0)) zg))))))
  (zi (zr (zl (i:=7) zA.nd rfl (Or.inl rfl) (PE.nE (zaI D_tops_by_bad hr (by decide) (za (zh (pv 5)) (za (zh (pv 2)) zg))))))
  (zk (zbg PassesOwn.never rfl (zbr B.range (za (zn zK zz (zc (pv 5)) (PE.sh (ze zf))) zg)) (zC (zO (i:=8) zA.nd rfl (Or.inl rfl)))
   (zi (zr (zl (i:=9) zA.nd rfl (Or.inl rfl) (zx D_keeps hr (by decide) (za (PE.nE (zfN (zc (pv 6)) (zcg (PE.sh (zn zK zz (zc (pv 8)) (PE.sh (ze zf))))) zcn)) (za (zh (pv 5)) (za (zh (pv 0)) (za (zh (pv 1)) zg)))))))
  (zk (zaZ (PW.pt (zbI (zI (zc (pv 9))) (zcv (zI (PE.sh (zx D_keeps hr (by decide) (za (PE.nE (zfN (zc (pv 7)) zcn (zcg (PE.sh (zn zK zz (zc (pv 8)) (PE.sh (ze zf))))))) (za (zh (pv 5)) (za (zh (pv 2)) (za (zh (pv 3)) zg)))))))))) (zk (zS (zan (za (zh (pv 5)) (za (zh (pv 8)) zg))))) z9))))))))
  (zk (zS (zjD zhJ))))))))
theorem zgm (F:Df K mg "_law_cell" za5 ["_law_script","_law_k"]) (B:Bs mg):Dn P w K mg base 1 "_law_cell" ["_law_script","_law_k"] (spD K 2 zas):=
 zam [] zcF F zf3 fun f cdv A outer s H E hr=>(zi (zaZ (zP zfs z8 (zc (pv 1)) (PE.sh (zap zbn zcz rfl B.len zd6 (zN (zc (pv 0)) zX))) (nomark _)) (zk (zS (zm (zc (pv 0)) (zc (pv 1))))) z9)
  (zk (zS (ze zf))))
theorem zfQ (F:Df K mg "_law_mixes" zaR ["_law_cell_here","_law_base","_law_many"]) (B:Bs mg):Dn P w K mg base 1 "_law_mixes" ["_law_cell_here","_law_base","_law_many"] (spN K 3 zbe):=
 zb1 [3] zb9 F zbk fun f cdv A outer s H E hr=>(zi (zb8 (zl (i:=3) zbk.nd rfl (Or.inl rfl) (zaD zg)))
  (zi (zbg PassesOwn.never rfl (zbr B.range (za (zh (pv 2)) zg)) (zC (zO (i:=4) zbk.nd rfl (Or.inl rfl)))
   (zi (zr (zl (i:=5) zbk.nd rfl (Or.inl rfl) (zn zaE zp (PE.sh (zn zK zz (PE.sh (zn zK zz (PE.sh (zn zB zp (PE.sh (zn zaE zp (zc (pv 0)) (PE.sh (ze zf)))) (PE.sh (ze zf)))) (PE.sh (zn zB zp (PE.sh (zn zB zp (zc (pv 4)) (zc (pv 4)))) (PE.sh (ze zf)))))) (PE.sh (zn zB zp (zc (pv 4)) (PE.sh (ze zf)))))) (PE.sh (ze zf)))))
  (zk (zck (zaL (zf6 PySem.F.plainAttrs_list PySem.F.slot_list_append PySem.F.type_list_append zcq (pv 3) (zab (zn zaE zp (PE.sh (zn zaH zp (PE.sh (zn zaE zp (PE.sh (zn zK zz (PE.sh (zn zB zp (zc (pv 5)) (PE.sh (ze zf)))) (zc (pv 0)))) (PE.sh (ze zf)))) (PE.sh (ze zf)))) (zc (pv 1))) za0)))))))
  (zk (zbP (pv 3)))))
theorem zdJ (F:Df K mg "_law_numbers" z7 ["_law_cell_here","_law_bases"]) (B:Bs mg) (D_law_mixes:Dn P w K mg base 1 "_law_mixes" ["_law_cell_here","_law_base","_law_many"] (spN K 3 zbe)):Dn P w K mg base 2 "_law_numbers" ["_law_cell_here","_law_bases"] (spN K 2 z5):=
 zb1 [3] zbu F zaa fun f cdv A outer s H E hr=>(zi (zaZ (zc5 zfs z8 zfs z8 (PE.sh (zea (PE.sh (zn zg8 zp (PE.sh (ze zf)) (PE.sh (ze zf)))))) (zc (pv 0)) (PE.sh (zn zg8 zp (PE.sh (ze zf)) (PE.sh (ze zf))))) (zi (zr (zl (i:=2) zaa.nd rfl (Or.inr rfl) (PE.nE (zaI D_law_mixes hr (by decide) (za (zh (pv 0)) (za (ze zf) (za (zap zbn zcz rfl B.len zd6 (zN (zc (pv 1)) zX)) zg)))))))
  (zk (zeL (PE.asC (zbY (defScope z7) ["_law_cell_here","_law_bases","_law_row","_law_made","_law_base"] [2,1] ["_law_k","_law_row","_law_bases"] ["_law_k"] own1 (PI.c (zbr B.range (za (zap zbn zcz rfl B.len zd6 (zN (zc (pv 1)) zX)) zg))) (fun _ _ _ _ _ _=>(zC (zO (i:=0) (show (["_law_k","_law_row","_law_bases"]:List Str).Nodup from by decide +kernel) rfl (Or.inl rfl)))) (fun _ _ _ _ _ _=>zdf) (fun _ _ _ _ _ _=>(zn zaE zp (PE.sh (zm (zc (pv 1)) (zc (pv 0)))) (PE.sh (zm (zc (pv 2)) (zc (pv 0))))))))))) z9)
  (zi (zb8 (zl (i:=3) zaa.nd rfl (Or.inl rfl) (zaD zg)))
  (zi (zr (zl (i:=0) zaa.nd rfl (Or.inl rfl) (zn zaH zp (zc (pv 0)) (PE.sh (ze zf)))))
  (zi (zbg PassesOwn.never rfl (za7 (zh (pv 1))) (zC (zO (i:=4) zaa.nd rfl (Or.inl rfl)))
   (zi (zck (zaL (zf6 PySem.F.plainAttrs_list PySem.F.slot_list_append PySem.F.type_list_append zcq (pv 3) (zab (zn zaE zp (zc (pv 0)) (zc (pv 4))) za0))))
  (zk (zr (zl (i:=0) zaa.nd rfl (Or.inl rfl) (zn zaH zp (zc (pv 0)) (zc (pv 4))))))))
  (zk (zbP (pv 3)))))))
theorem zft (F:Df K mg "_law_word" zaJ ["_law_e"]) (B:Bs mg) (CT:ClTs K mg CSX TSX) (zVE:mg "ValueError"=none) (kVE:ClT K CSX "ValueError" (.type "ValueError")):DnW P w K mg base 1 "_law_word" ["_law_e"] (fun y=>spD K 1 (zaO y)):=by
 refine zl3 [] zd3 F zaq fun y f cdv A outer s H hr hy=>?_
 refine zi ?_ ?_
 ·exact (zr (zl (i:=1) zaq.nd rfl (Or.inr rfl) (PE.nE (zaD (za (zar CSX TSX CT (.head _) B.isinstance (zc (pv 0))) (za (zar CSX TSX CT (.tail _ (.head _)) B.isinstance (zc (pv 0))) (za (zar CSX TSX CT (.tail _ (.tail _ (.head _))) B.isinstance (zc (pv 0))) (za (zar CSX TSX CT (.tail _ (.tail _ (.tail _ (.head _)))) B.isinstance (zc (pv 0))) zg))))))))
 refine zi ?_ ?_
 ·exact (zr (zl (i:=1) zaq.nd rfl (Or.inr rfl) (PE.nE (zd4 zb0 zb6 (zc (pv 1)) (PE.sh (PE.nE (zaD (za (zar CSX TSX CT (.tail _ (.tail _ (.tail _ (.tail _ (.head _))))) B.isinstance (zc (pv 0))) (za (zar CSX TSX CT (.tail _ (.tail _ (.tail _ (.tail _ (.tail _ (.head _)))))) B.isinstance (zc (pv 0))) (za (zar CSX TSX CT (.tail _ (.tail _ (.tail _ (.tail _ (.tail _ (.tail _ (.head _))))))) B.isinstance (zc (pv 0))) (za (zar CSX TSX CT (.tail _ (.tail _ (.tail _ (.tail _ (.tail _ (.tail _ (.tail _ (.head _)))))))) B.isinstance (zc (pv 0))) zg)))))))))))
 refine zi ?_ ?_
 ·exact (zr (zl (i:=1) zaq.nd rfl (Or.inr rfl) (PE.nE (zd4 zb0 zb6 (zc (pv 1)) (PE.sh (PE.nE (zaD (za (zar CSX TSX CT (.tail _ (.tail _ (.tail _ (.tail _ (.tail _ (.tail _ (.tail _ (.tail _ (.head _))))))))) B.isinstance (zc (pv 0))) (za (zar CSX TSX CT (.tail _ (.tail _ (.tail _ (.tail _ (.tail _ (.tail _ (.tail _ (.tail _ (.tail _ (.head _)))))))))) B.isinstance (zc (pv 0))) (za (zar CSX TSX CT (.tail _ (.tail _ (.tail _ (.tail _ (.tail _ (.tail _ (.tail _ (.tail _ (.tail _ (.tail _ (.head _))))))))))) B.isinstance (zc (pv 0))) (za (zar CSX TSX CT (.tail _ (.tail _ (.tail _ (.tail _ (.tail _ (.tail _ (.tail _ (.tail _ (.tail _ (.tail _ (.tail _ (.head _)))))))))))) B.isinstance (zc (pv 0))) zg)))))))))))
 refine zi ?_ ?_
 ·exact (zr (zl (i:=1) zaq.nd rfl (Or.inr rfl) (PE.nE (zd4 zb0 zb6 (zc (pv 1)) (PE.sh (PE.nE (zaD (za (zar CSX TSX CT (.tail _ (.tail _ (.tail _ (.tail _ (.tail _ (.tail _ (.tail _ (.tail _ (.tail _ (.tail _ (.tail _ (.tail _ (.head _))))))))))))) B.isinstance (zc (pv 0))) (za (zar CSX TSX CT (.tail _ (.tail _ (.tail _ (.tail _ (.tail _ (.tail _ (.tail _ (.tail _ (.tail _ (.tail _ (.tail _ (.tail _ (.tail _ (.head _)))))))))))))) B.isinstance (zc (pv 0))) (za (zar CSX TSX CT (.tail _ (.tail _ (.tail _ (.tail _ (.tail _ (.tail _ (.tail _ (.tail _ (.tail _ (.tail _ (.tail _ (.tail _ (.tail _ (.tail _ (.head _))))))))))))))) B.isinstance (zc (pv 0))) zg))))))))))
 refine zi ?_ ?_
 ·refine zr ?_
  refine zl ?_ ?_ ?_ ?_ ?_ ?_
  ·exact zaq.nd
  ·rfl
  ·exact (Or.inr rfl)
  ·refine PE.nE ?_
   refine zaD ?_
   exact zey rfl
  ·exact zjq
  ·exact .inl rfl
 refine zi ?_ ?_
 ·exact (zr (zl (i:=2) zaq.nd rfl (Or.inr rfl) (PE.nE (zd4 zb0 zb6 (zc (pv 2)) (PE.sh (PE.nE (zaD (zey (by rfl)))))))))
 refine zi ?_ ?_
 ·exact (zaZ (zb7 (zI (PE.sh (zir CSX B.isinstance (zc (pv 0)) (ziC rfl zVE zoq (v:=.ty "ValueError") rfl) (fun _ r=>r) kVE)))) (zk (zS (zbC za8))) z9)
 exact zk (zS (zlD (PE.sh (zbC za8)) (PE.nE (zjz (gd:=hxG y) (defScope zaJ) ["_law_e","_law_named","_law_words"] [2,1] ["_law_k","_law_words","_law_named"] ["_law_k"] (fun _ _ _ _ _ _=>hy) own1 (zhE y 0 B.range (za (ze zf) zg)) (fun _ _ _ _ _ _=>(zC (zO (i:=0) (show (["_law_k","_law_words","_law_named"]:List Str).Nodup from by decide +kernel) rfl (Or.inl rfl)))) (fun _ _ _ _ _ _=>(zhL (zI (PE.sh (zm (zc (pv 2)) (zc (pv 0))))))) (fun _ _ _ _ _ _=>(zm (zc (pv 1)) (zc (pv 0))))))))
theorem zel (F:Df K mg "_law_lowest" zat ["_law_top","_law_bottom"]) (B:Bs mg):Dn P w K mg base 1 "_law_lowest" ["_law_top","_law_bottom"] (spD K 2 zax):=
 zam [] zbO F za3 fun f cdv A outer s H E hr=>(zi (zr (zl (i:=2) za3.nd rfl (Or.inl rfl) (zap zce zdF rfl B.abs zfG (zN (zc (pv 0)) zX))))
  (zi (zr (zl (i:=3) za3.nd rfl (Or.inl rfl) (zh (pv 1))))
  (zi (zcX PassesOwn.never (zP zjw z8 (zc (pv 3)) (PE.sh (ze zf)) (nomark _)) (zk (znO (znD (i:=2) (j:=3) rfl za3.nd rfl rfl (by decide) rfl rfl (za (zh (pv 3)) (za (zn zaE zp (zc (pv 2)) (zc (pv 3))) zg)) rfl))))
  (zk (zS (zan (za (zn zaH zp (zc (pv 0)) (zc (pv 2))) (za (zn zaH zp (zc (pv 1)) (zc (pv 2))) zg))))))))
theorem zeK (F:Df K mg "_law_answer" zaw ["_law_low","_law_low_most","_law_high","_law_high_most","_law_bound"]) (B:Bs mg) {cL:Addr} (mL:mg "LotError"=some (.ref cL)) (CE:ClEs K mg cL CSX) (DW_law_word:DnW P w K mg base 1 "_law_word" ["_law_e"] (fun y=>spD K 1 (zaO y))) (DR_least_plan:DnR P w K mg base 8 "least_plan" ["low","low_most","high","high_most","bound"] (spR K mg 5 zV)):Dn P w K mg base 9 "_law_answer" ["_law_low","_law_low_most","_law_high","_law_high_most","_law_bound"] (spD K 5 zaY):=
 zam [] zaW F zbx fun f cdv A outer s H E hr=>(zi (znE (i:=6) (gs:=zcR) (hand:=handOf CSX (fun c=>.str c)) (fun pins0 E=>(zk (zlz (zl (i:=5) zbx.nd rfl (Or.inl rfl) (zc4 DR_least_plan hr (by decide) zlp (za (zh (pv 0)) (za (zh (pv 1)) (za (zh (pv 2)) (za (zh (pv 3)) (za (zh (pv 4)) zg)))))))))) (fun a=>(zk (zS (zkh (G:=zaO) (y:=a) DW_law_word (hr.markX _) (by decide) rfl (za (zh (pv 6)) zg))))) (fun c d h=>CE c (zhe h)) zeD mL zbx.nd)
  (zi (zaZ (PW.pt (zcS (zP znP zlM (zc (pv 5)) (PE.sh (zjD zhJ)) (nomark _)) (zdx (zI (PE.sh (znm "tuple" B.isinstance (zc (pv 5)) (ziC rfl B.tuple zeR (v:=.ty "tuple") rfl))))))) (zk (zS (zbC za8))) z9)
  (zk (zS (zbC za8)))))
theorem zhp (F:Df K mg "_law_due" zbq ["_law_low","_law_low_most","_law_high","_law_high_most","_law_bound"]) (B:Bs mg):Dn P w K mg base 1 "_law_due" ["_law_low","_law_low_most","_law_high","_law_high_most","_law_bound"] (spD K 5 zbS):=
 zam [] zdh F zd0 fun f cdv A outer s H E hr=>(zi (zaZ (PW.pt (zcS (zP zdO z8 (PE.sh (zm (zc (pv 0)) (PE.sh (ze zf)))) (PE.sh (ze zf)) (nomark _)) (zcS (zP zmV z8 (PE.sh (zm (zc (pv 2)) (PE.sh (ze zf)))) (PE.sh (zm (zc (pv 2)) (PE.sh (ze zf)))) (nomark _)) (zdx (zP zmV z8 (PE.sh (zn zB zp (PE.sh (zm (zc (pv 0)) (PE.sh (ze zf)))) (PE.sh (zm (zc (pv 2)) (PE.sh (ze zf)))))) (PE.sh (zn zB zp (PE.sh (zm (zc (pv 2)) (PE.sh (ze zf)))) (PE.sh (zm (zc (pv 0)) (PE.sh (ze zf)))))) (nomark _)))))) (zk (zS (zbC za8))) z9)
  (zi (zbg PassesOwn.never rfl (za7 (zan (za (zh (pv 1)) (za (zh (pv 3)) zg)))) (zC (zO (i:=5) zd0.nd rfl (Or.inl rfl)))
   (zk (zaZ (PW.pt (zcS (zP zfs z8 (PE.sh (zm (zc (pv 5)) (PE.sh (ze zf)))) (PE.sh (ze zf)) (nomark _)) (zdx (zP zjw z8 (PE.sh (zm (zc (pv 5)) (PE.sh (ze zf)))) (PE.sh (zm (zc (pv 5)) (PE.sh (ze zf)))) (nomark _))))) (zk (zS (zbC za8))) z9)))
  (zk (zS (zm (PE.sh (PE.nE (zaD (za (zbC za8) (za (zbC za8) zg))))) (PE.sh (zdw zh2 zms rfl B.int znk (zN (PE.sh (zeH zdO z8 zdO z8 (PE.sh (ze zf)) (zc (pv 4)) (PE.sh (ze zf)))) zX))))))))
theorem znM {f:Addr} {fd:FuncData} (F:Fun K "law" "law" zdH f fd) (B:Bs mg) (D_law_answer:Dn P w K mg base 9 "_law_answer" ["_law_low","_law_low_most","_law_high","_law_high_most","_law_bound"] (spD K 5 zaY)) (D_law_cell:Dn P w K mg base 1 "_law_cell" ["_law_script","_law_k"] (spD K 2 zas)) (D_law_due:Dn P w K mg base 1 "_law_due" ["_law_low","_law_low_most","_law_high","_law_high_most","_law_bound"] (spD K 5 zbS)) (D_law_lowest:Dn P w K mg base 1 "_law_lowest" ["_law_top","_law_bottom"] (spD K 2 zax)) (D_law_numbers:Dn P w K mg base 2 "_law_numbers" ["_law_cell_here","_law_bases"] (spN K 2 z5)):FnOk P w K mg base CX0 10 f fd ["_law_script"] (spD K 1 zhz):=
 zoo [3] zlJ F zbD fun f cdv A outer s H E hr=>(zi (zbg PassesOwn.never rfl (za7 (PE.nE (zd4 zb0 zb6 (PE.sh (PE.nE (zfN (zc (pv 0)) zcn (zcg (PE.sh (ze zf)))))) (PE.sh (PE.nE (zaD (za (zx D_law_cell hr (by decide) (za (zh (pv 0)) (za (ze zf) zg))) zg))))))) (zC (zO (i:=1) zbD.nd rfl (Or.inl rfl)))
   (zi (zr (zl (i:=2) zbD.nd rfl (Or.inl rfl) (PE.nE (zhY D_law_numbers hr (by decide) (zh (pv 1)) (by rfl)))))
  (zi (zb8 (zl (i:=3) zbD.nd rfl (Or.inl rfl) (zaD zg)))
  (zi (zbg PassesOwn.never rfl (zbr B.range (za (ze zf) zg)) (zC (zO (i:=4) zbD.nd rfl (Or.inl rfl)))
   (zi (zr (zl (i:=5) zbD.nd rfl (Or.inl rfl) (zn zK zz (PE.sh (ze zf)) (PE.sh (zm (zc (pv 2)) (PE.sh (zn zK zz (PE.sh (zn zB zp (PE.sh (ze zf)) (zc (pv 4)))) (PE.sh (ze zf)))))))))
  (zi (zr (zl (i:=6) zbD.nd rfl (Or.inl rfl) (zn zaE zp (PE.sh (zm (zc (pv 2)) (PE.sh (zn zB zp (PE.sh (ze zf)) (zc (pv 4)))))) (PE.sh (zn zK zz (zc (pv 5)) (PE.sh (ze zf)))))))
  (zi (zaZ (PW.pt (zbI (PW.pt (zcS (zP (zco hr) zcc (PE.sh (zm (zc (pv 2)) (PE.sh (ze zf)))) (zc (pv 4)) (nomark _)) (zdx (zP (zco hr) zcc (PE.sh (zm (zc (pv 2)) (PE.sh (ze zf)))) (zc (pv 4)) (nomark _))))) (zcv (zP (zco hr) zcc (PE.sh (zn zaE zp (PE.sh (zm (zc (pv 2)) (PE.sh (ze zf)))) (PE.sh (ze zf)))) (PE.sh (ze zf)) (nomark _))))) (zk (zr (zl (i:=6) zbD.nd rfl (Or.inl rfl) (zm (PE.sh (PE.nE (zaD (za (ze zf) (za (zh (pv 5)) (za (zn zcM ze1 (PE.sh (zea (PE.sh (ze zf)))) (PE.sh (zm (zc (pv 2)) (PE.sh (zn zB zp (PE.sh (ze zf)) (zc (pv 4))))))) (za (zn zK zz (PE.sh (zn zK zz (zc (pv 5)) (PE.sh (ze zf)))) (PE.sh (zm (zc (pv 2)) (PE.sh (zn zB zp (PE.sh (ze zf)) (zc (pv 4))))))) zg))))))) (PE.sh (zn zaH zp (PE.sh (zm (zc (pv 2)) (PE.sh (ze zf)))) (PE.sh (ze zf)))))))) z9)
  (zk (zck (zaL (zf6 PySem.F.plainAttrs_list PySem.F.slot_list_append PySem.F.type_list_append zcq (pv 3) (zab (zx D_law_lowest hr (by decide) (za (zh (pv 6)) (za (zh (pv 5)) zg))) za0)))))))))
  (zi (zaZ (PW.pt (zbI (zP zjw z8 (PE.sh (zm (zc (pv 2)) (PE.sh (ze zf)))) (PE.sh (ze zf)) (nomark _)) (zcv (zP zjw z8 (PE.sh (zn zB zp (PE.sh (zm (PE.sh (zm (zc (pv 3)) (PE.sh (ze zf)))) (PE.sh (ze zf)))) (PE.sh (zm (PE.sh (zm (zc (pv 3)) (PE.sh (ze zf)))) (PE.sh (ze zf)))))) (PE.sh (zn zB zp (PE.sh (zm (PE.sh (zm (zc (pv 3)) (PE.sh (ze zf)))) (PE.sh (ze zf)))) (PE.sh (zm (PE.sh (zm (zc (pv 3)) (PE.sh (ze zf)))) (PE.sh (ze zf)))))) (nomark _))))) (zk (zb8 (zl (i:=3) zbD.nd rfl (Or.inl rfl) (zaD (za (zm (zc (pv 3)) (PE.sh (ze zf))) (za (zm (zc (pv 3)) (PE.sh (ze zf))) (za (zm (zc (pv 3)) (PE.sh (ze zf))) (za (zm (zc (pv 3)) (PE.sh (ze zf))) zg)))))))) z9)
  (zi (zr (zl (i:=7) zbD.nd rfl (Or.inl rfl) (zn zK zz (PE.sh (ze zf)) (PE.sh (zn zaE zp (PE.sh (zm (zc (pv 2)) (PE.sh (ze zf)))) (PE.sh (ze zf)))))))
  (zi (zaZ (PW.pt (zcS (zP (zco hr) zcc (PE.sh (zm (zc (pv 2)) (PE.sh (ze zf)))) (PE.sh (ze zf)) (nomark _)) (zdx (zP (zco hr) zcc (PE.sh (zm (zc (pv 2)) (PE.sh (ze zf)))) (PE.sh (ze zf)) (nomark _))))) (zk (zr (zl (i:=7) zbD.nd rfl (Or.inl rfl) (zm (PE.sh (PE.nE (zaD (za (ze zf) (za (zea (PE.sh (ze zf))) (za (ze zf) (za (ze zf) (za (zn zcM ze1 (PE.sh (zea (PE.sh (ze zf)))) (PE.sh (zn zaE zp (zc (pv 1)) (PE.sh (zn zg8 zp (PE.sh (ze zf)) (PE.sh (ze zf))))))) (za (zn zK zz (PE.sh (ze zf)) (PE.sh (zn zaE zp (zc (pv 1)) (PE.sh (zn zg8 zp (PE.sh (ze zf)) (PE.sh (ze zf))))))) zg))))))))) (PE.sh (zn zaE zp (PE.sh (zm (zc (pv 2)) (PE.sh (ze zf)))) (PE.sh (ze zf)))))))) z9)
  (zi (zr (zl (i:=8) zbD.nd rfl (Or.inl rfl) (zx D_law_answer hr (by decide) (za (zm (zc (pv 3)) (PE.sh (ze zf))) (za (zm (zc (pv 3)) (PE.sh (ze zf))) (za (zm (zc (pv 3)) (PE.sh (ze zf))) (za (zm (zc (pv 3)) (PE.sh (ze zf))) (za (zh (pv 7)) zg))))))))
  (zk (zaZ (zP (zjy hr) ziD (zc (pv 8)) (PE.sh (zx D_law_due hr (by decide) (za (zm (zc (pv 3)) (PE.sh (ze zf))) (za (zm (zc (pv 3)) (PE.sh (ze zf))) (za (zm (zc (pv 3)) (PE.sh (ze zf))) (za (zm (zc (pv 3)) (PE.sh (ze zf))) (za (zh (pv 7)) zg))))))) (nomark _)) (zk (zS (zmw zmn))) z9))))))))))
  (zk (zS (zmw zmn))))
end
end MyLaw
namespace MyLaw
open PySem L2 Q1
structure QF (K:PySem.W.Frag) (n:Str) (st:Stmt) (f:Addr) (od an:Option Addr) (sl:Array (Option Value)) (oc kV dc pm cd ct:Value):Prop where
 a:PySem.W.nsIn K mainGlobals n=some (some (.ref f))
 l:K.lookup f=some ⟨oc,od,.func (PySem.W.fnOf n n (defArgs st) (defBody st) (defScope st) .none kV dc pm an cd ct),sl⟩
 c:PySem.W.codeIn K cd n=true
 k:PySem.W.keepIn K (.ref f)=true
theorem znC {l:PySem.W.OpenLaw} {w:World} {K:PySem.W.Frag} {h:Heap} {mg:Str->Option Value} {fa:Addr} (X:K.In h) (G:h.Ns mainGlobals mg) (hfa:mg "law"=some (.ref fa))
  {f1 f2 f3 f4 f5 f6 f7 f8 f9 f10 f11 f12 f13 f14 f15 f16 f17 f18 f19 f20 f21 f22 f23 f24 f26 f27 f28 f29 f30 f31 f32:Addr} {od1 an1 od2 an2 od3 an3 od4 an4 od5 an5 od6 an6 od7 an7 od8 an8 od9 an9 od10 an10 od11 an11 od12 an12 od13 an13 od14 an14 od15 an15 od16 an16 od17 an17 od18 an18 od19 an19 od20 an20 od21 an21 od22 an22 od23 an23 od24 an24 od26 an26 od27 an27 od28 an28 od29 an29 od30 an30 od31 an31 od32 an32:Option Addr} {sl1 sl2 sl3 sl4 sl5 sl6 sl7 sl8 sl9 sl10 sl11 sl12 sl13 sl14 sl15 sl16 sl17 sl18 sl19 sl20 sl21 sl22 sl23 sl24 sl26 sl27 sl28 sl29 sl30 sl31 sl32:Array (Option Value)} {oc1 kV1 dc1 pm1 cd1 ct1 oc2 kV2 dc2 pm2 cd2 ct2 oc3 kV3 dc3 pm3 cd3 ct3 oc4 kV4 dc4 pm4 cd4 ct4 oc5 kV5 dc5 pm5 cd5 ct5 oc6 kV6 dc6 pm6 cd6 ct6 oc7 kV7 dc7 pm7 cd7 ct7 oc8 kV8 dc8 pm8 cd8 ct8 oc9 kV9 dc9 pm9 cd9 ct9 oc10 kV10 dc10 pm10 cd10 ct10 oc11 kV11 dc11 pm11 cd11 ct11 oc12 kV12 dc12 pm12 cd12 ct12 oc13 kV13 dc13 pm13 cd13 ct13 oc14 kV14 dc14 pm14 cd14 ct14 oc15 kV15 dc15 pm15 cd15 ct15 oc16 kV16 dc16 pm16 cd16 ct16 oc17 kV17 dc17 pm17 cd17 ct17 oc18 kV18 dc18 pm18 cd18 ct18 oc19 kV19 dc19 pm19 cd19 ct19 oc20 kV20 dc20 pm20 cd20 ct20 oc21 kV21 dc21 pm21 cd21 ct21 oc22 kV22 dc22 pm22 cd22 ct22 oc23 kV23 dc23 pm23 cd23 ct23 oc24 kV24 dc24 pm24 cd24 ct24 oc26 kV26 dc26 pm26 cd26 ct26 oc27 kV27 dc27 pm27 cd27 ct27 oc28 kV28 dc28 pm28 cd28 ct28 oc29 kV29 dc29 pm29 cd29 ct29 oc30 kV30 dc30 pm30 cd30 ct30 oc31 kV31 dc31 pm31 cd31 ct31 oc32 kV32 dc32 pm32 cd32 ct32:Value}
  (q1:QF K "frac" zdZ f1 od1 an1 sl1 oc1 kV1 dc1 pm1 cd1 ct1)
  (q2:QF K "plus" zdU f2 od2 an2 sl2 oc2 kV2 dc2 pm2 cd2 ct2)
  (q3:QF K "minus" zcB f3 od3 an3 sl3 oc3 kV3 dc3 pm3 cd3 ct3)
  (q4:QF K "power" zcH f4 od4 an4 sl4 oc4 kV4 dc4 pm4 cd4 ct4)
  (q5:QF K "under" zcD f5 od5 an5 sl5 oc5 kV5 dc5 pm5 cd5 ct5)
  (q6:QF K "greatest_divisor" zM f6 od6 an6 sl6 oc6 kV6 dc6 pm6 cd6 ct6)
  (q7:QF K "leap" zdX f7 od7 an7 sl7 oc7 kV7 dc7 pm7 cd7 ct7)
  (q8:QF K "goes_on" zbp f8 od8 an8 sl8 oc8 kV8 dc8 pm8 cd8 ct8)
  (q9:QF K "come_to" zbc f9 od9 an9 sl9 oc9 kV9 dc9 pm9 cd9 ct9)
  (q10:QF K "ends" zc7 f10 od10 an10 sl10 oc10 kV10 dc10 pm10 cd10 ct10)
  (q11:QF K "drawn_on" zaN f11 od11 an11 sl11 oc11 kV11 dc11 pm11 cd11 ct11)
  (q12:QF K "plan_while" zae f12 od12 an12 sl12 oc12 kV12 dc12 pm12 cd12 ct12)
  (q13:QF K "led_to" zby f13 od13 an13 sl13 oc13 kV13 dc13 pm13 cd13 ct13)
  (q14:QF K "after" zcu f14 od14 an14 sl14 oc14 kV14 dc14 pm14 cd14 ct14)
  (q15:QF K "ways_from" zaM f15 od15 an15 sl15 oc15 kV15 dc15 pm15 cd15 ct15)
  (q16:QF K "check_shares" zW f16 od16 an16 sl16 oc16 kV16 dc16 pm16 cd16 ct16)
  (q17:QF K "check_most" zad f17 od17 an17 sl17 oc17 kV17 dc17 pm17 cd17 ct17)
  (q18:QF K "often" zcE f18 od18 an18 sl18 oc18 kV18 dc18 pm18 cd18 ct18)
  (q19:QF K "so_many" za9 f19 od19 an19 sl19 oc19 kV19 dc19 pm19 cd19 ct19)
  (q20:QF K "check" zcJ f20 od20 an20 sl20 oc20 kV20 dc20 pm20 cd20 ct20)
  (q21:QF K "least_plan" zac f21 od21 an21 sl21 oc21 kV21 dc21 pm21 cd21 ct21)
  (q22:QF K "tops_by_bad" z4 f22 od22 an22 sl22 oc22 kV22 dc22 pm22 cd22 ct22)
  (q23:QF K "keeps" zcK f23 od23 an23 sl23 oc23 kV23 dc23 pm23 cd23 ct23)
  (q24:QF K "_law_cell" za5 f24 od24 an24 sl24 oc24 kV24 dc24 pm24 cd24 ct24)
  (q26:QF K "_law_mixes" zaR f26 od26 an26 sl26 oc26 kV26 dc26 pm26 cd26 ct26)
  (q27:QF K "_law_numbers" z7 f27 od27 an27 sl27 oc27 kV27 dc27 pm27 cd27 ct27)
  (q28:QF K "_law_word" zaJ f28 od28 an28 sl28 oc28 kV28 dc28 pm28 cd28 ct28)
  (q29:QF K "_law_lowest" zat f29 od29 an29 sl29 oc29 kV29 dc29 pm29 cd29 ct29)
  (q30:QF K "_law_answer" zaw f30 od30 an30 sl30 oc30 kV30 dc30 pm30 cd30 ct30)
  (q31:QF K "_law_due" zbq f31 od31 an31 sl31 oc31 kV31 dc31 pm31 cd31 ct31)
  (q32:QF K "law" zdH f32 od32 an32 sl32 oc32 kV32 dc32 pm32 cd32 ct32)
  {tLONG:Tok} (aLONG:PySem.W.nsIn K mainGlobals "LONG"=some (some (.int 4000 tLONG)))
  {tWINDOW:Tok} (aWINDOW:PySem.W.nsIn K mainGlobals "WINDOW"=some (some (.int 240 tWINDOW)))
  {tSHED:Tok} (aSHED:PySem.W.nsIn K mainGlobals "SHED"=some (some (.int 120 tSHED)))
  {tMOST_PLACES:Tok} (aMOST_PLACES:PySem.W.nsIn K mainGlobals "MOST_PLACES"=some (some (.int 24 tMOST_PLACES)))
  {pNOUGHT:Addr} {odNOUGHT:Option Addr} {slNOUGHT:Array (Option Value)} {nNOUGHT:Nat} {tNOUGHT0 tNOUGHT1:Tok} (aNOUGHT:PySem.W.nsIn K mainGlobals "NOUGHT"=some (some (.ref pNOUGHT))) (lNOUGHT:K.lookup pNOUGHT=some ⟨.type "tuple",odNOUGHT,.seq #[.int (0) tNOUGHT0,.int (1) tNOUGHT1] nNOUGHT,slNOUGHT⟩)
  {pWHOLE:Addr} {odWHOLE:Option Addr} {slWHOLE:Array (Option Value)} {nWHOLE:Nat} {tWHOLE0 tWHOLE1:Tok} (aWHOLE:PySem.W.nsIn K mainGlobals "WHOLE"=some (some (.ref pWHOLE))) (lWHOLE:K.lookup pWHOLE=some ⟨.type "tuple",odWHOLE,.seq #[.int (1) tWHOLE0,.int (1) tWHOLE1] nWHOLE,slWHOLE⟩)
  (z_len:PySem.W.nsIn K mainGlobals "len"=some none)
  (z_range:PySem.W.nsIn K mainGlobals "range"=some none)
  (z_isinstance:PySem.W.nsIn K mainGlobals "isinstance"=some none)
  (z_max:PySem.W.nsIn K mainGlobals "max"=some none)
  (z_min:PySem.W.nsIn K mainGlobals "min"=some none)
  (z_int:PySem.W.nsIn K mainGlobals "int"=some none)
  (z_bool:PySem.W.nsIn K mainGlobals "bool"=some none)
  (z_tuple:PySem.W.nsIn K mainGlobals "tuple"=some none)
  (z_list:PySem.W.nsIn K mainGlobals "list"=some none)
  (z_abs:PySem.W.nsIn K mainGlobals "abs"=some none)
  (z_str:PySem.W.nsIn K mainGlobals "str"=some none)
  (z_sum:PySem.W.nsIn K mainGlobals "sum"=some none)
  (z_sorted:PySem.W.nsIn K mainGlobals "sorted"=some none)
  (z_reversed:PySem.W.nsIn K mainGlobals "reversed"=some none)
  (z_enumerate:PySem.W.nsIn K mainGlobals "enumerate"=some none)
  (z_set:PySem.W.nsIn K mainGlobals "set"=some none)
  (z_all:PySem.W.nsIn K mainGlobals "all"=some none)
  (z_zip:PySem.W.nsIn K mainGlobals "zip"=some none)
  (z_any:PySem.W.nsIn K mainGlobals "any"=some none)
  {P19 c19:Addr} (lt:lamTab=[(P19,(⟨143,22,143,56⟩:Pos),("so_many.<locals>.<lambda>":Str))])
  (ct:cstTab=[(pNOUGHT,[V.int (0),V.int (1)]),(pWHOLE,[V.int (1),V.int (1)])])
  (ne1_0:pWHOLE≠pNOUGHT)
  (e19:cd19=.ref c19)
  (HD_so_many:PySem.W.codeHdIn K c19 P19=true)
  (kn19:K.lookup P19=none)
  {cNoShares:Addr} (aNoShares:PySem.W.nsIn K mainGlobals "NoShares"=some (some (.ref cNoShares)))
  (qxNoShares:PySem.W.excIn (offC K) cNoShares VE "ValueError.__new__"=true)
  {cTooLong:Addr} (aTooLong:PySem.W.nsIn K mainGlobals "TooLong"=some (some (.ref cTooLong)))
  (qxTooLong:PySem.W.excIn (offC K) cTooLong VE "ValueError.__new__"=true)
  {cL:Addr} (aL:PySem.W.nsIn K mainGlobals "LotError"=some (some (.ref cL)))
  (zE:PySem.W.nsIn K mainGlobals "ValueError"=some none)
  (qc:clsB (offC K) cL CSX TSX=true)
  :CstOk K /\ LamOk K /\ ∃ fd:FuncData,(∀ (s:Shared) (v:Value),BindsTo s fd ⟨[v],[]⟩ [("_law_script",v)]) /\ ∀ base:Heap,(offC K).In base->base.Ns mainGlobals mg->BAt mg base->FnOk l.prog w (offC K) mg base CX0 10 fa fd ["_law_script"] (spD (offC K) 1 zhz):=by
 have e:=hfa.symm.trans (PySem.W.mg_of X G q32.a)
 cases e
 have CK:CstOk K:=⟨(fun p xs m=>by have bq1_0:=beq_eq_false_iff_ne.mpr ne1_0; rw [ct] at m ⊢; simp only [List.mem_cons,List.not_mem_nil,or_false,Prod.mk.injEq] at m; rcases m with ⟨rfl,rfl⟩ | ⟨rfl,rfl⟩ <;> simp [List.lookup_cons, *]),(fun p xs m=>by have m:=zk9 m; rw [ct] at m; simp only [List.mem_cons,List.not_mem_nil,or_false,Prod.mk.injEq] at m; rcases m with ⟨rfl,rfl⟩ | ⟨rfl,rfl⟩ <;> first | exact ⟨_,_,_,_,lNOUGHT,(by show 2<=sizeLine; decide),(.cons ⟨_,rfl⟩ (.cons ⟨_,rfl⟩ .nil))⟩ | exact ⟨_,_,_,_,lWHOLE,(by show 2<=sizeLine; decide),(.cons ⟨_,rfl⟩ (.cons ⟨_,rfl⟩ .nil))⟩)⟩
 have LO:LamOk K:=⟨(fun p y q m=>by rw [lt] at m ⊢; simp only [List.mem_cons,List.not_mem_nil,or_false,Prod.mk.injEq] at m; rcases m with ⟨rfl,rfl,rfl⟩ <;> simp [List.lookup_cons, *]),(fun p y q m=>by rw [lt] at m; simp only [List.mem_cons,List.not_mem_nil,or_false,Prod.mk.injEq] at m; rcases m with ⟨rfl,rfl,rfl⟩ <;> first | exact ⟨kn19,_,HD_so_many⟩)⟩
 have d_frac:Df (offC K) mg "frac" zdZ ["top","bottom"]:=⟨_,_,(CK.func (zo (st:=zdZ) q1.l q1.c q1.k)),PySem.W.mg_of X G q1.a,(CK.func (zo (st:=zdZ) q1.l q1.c q1.k)).binds fun _ _ _ _ _ _ us hl=>match us,hl with | [_,_],_=>rfl⟩
 have d_plus:Df (offC K) mg "plus" zdU ["one","other"]:=⟨_,_,(CK.func (zo (st:=zdU) q2.l q2.c q2.k)),PySem.W.mg_of X G q2.a,(CK.func (zo (st:=zdU) q2.l q2.c q2.k)).binds fun _ _ _ _ _ _ us hl=>match us,hl with | [_,_],_=>rfl⟩
 have d_minus:Df (offC K) mg "minus" zcB ["one","other"]:=⟨_,_,(CK.func (zo (st:=zcB) q3.l q3.c q3.k)),PySem.W.mg_of X G q3.a,(CK.func (zo (st:=zcB) q3.l q3.c q3.k)).binds fun _ _ _ _ _ _ us hl=>match us,hl with | [_,_],_=>rfl⟩
 have d_power:Df (offC K) mg "power" zcH ["one","many"]:=⟨_,_,(CK.func (zo (st:=zcH) q4.l q4.c q4.k)),PySem.W.mg_of X G q4.a,(CK.func (zo (st:=zcH) q4.l q4.c q4.k)).binds fun _ _ _ _ _ _ us hl=>match us,hl with | [_,_],_=>rfl⟩
 have d_under:Df (offC K) mg "under" zcD ["one","other"]:=⟨_,_,(CK.func (zo (st:=zcD) q5.l q5.c q5.k)),PySem.W.mg_of X G q5.a,(CK.func (zo (st:=zcD) q5.l q5.c q5.k)).binds fun _ _ _ _ _ _ us hl=>match us,hl with | [_,_],_=>rfl⟩
 have d_greatest_divisor:Df (offC K) mg "greatest_divisor" zM ["one","other"]:=⟨_,_,(CK.func (zo (st:=zM) q6.l q6.c q6.k)),PySem.W.mg_of X G q6.a,(CK.func (zo (st:=zM) q6.l q6.c q6.k)).binds fun _ _ _ _ _ _ us hl=>match us,hl with | [_,_],_=>rfl⟩
 have d_leap:Df (offC K) mg "leap" zdX ["one","other"]:=⟨_,_,(CK.func (zo (st:=zdX) q7.l q7.c q7.k)),PySem.W.mg_of X G q7.a,(CK.func (zo (st:=zdX) q7.l q7.c q7.k)).binds fun _ _ _ _ _ _ us hl=>match us,hl with | [_,_],_=>rfl⟩
 have d_goes_on:Df (offC K) mg "goes_on" zbp ["plan","count"]:=⟨_,_,(CK.func (zo (st:=zbp) q8.l q8.c q8.k)),PySem.W.mg_of X G q8.a,(CK.func (zo (st:=zbp) q8.l q8.c q8.k)).binds fun _ _ _ _ _ _ us hl=>match us,hl with | [_,_],_=>rfl⟩
 have d_come_to:Df (offC K) mg "come_to" zbc ["plan"]:=⟨_,_,(CK.func (zo (st:=zbc) q9.l q9.c q9.k)),PySem.W.mg_of X G q9.a,(CK.func (zo (st:=zbc) q9.l q9.c q9.k)).binds fun _ _ _ _ _ _ us hl=>match us,hl with | [_],_=>rfl⟩
 have d_ends:Df (offC K) mg "ends" zc7 ["plan"]:=⟨_,_,(CK.func (zo (st:=zc7) q10.l q10.c q10.k)),PySem.W.mg_of X G q10.a,(CK.func (zo (st:=zc7) q10.l q10.c q10.k)).binds fun _ _ _ _ _ _ us hl=>match us,hl with | [_],_=>rfl⟩
 have d_drawn_on:Df (offC K) mg "drawn_on" zaN ["plan"]:=⟨_,_,(CK.func (zo (st:=zaN) q11.l q11.c q11.k)),PySem.W.mg_of X G q11.a,(CK.func (zo (st:=zaN) q11.l q11.c q11.k)).binds fun _ _ _ _ _ _ us hl=>match us,hl with | [_],_=>rfl⟩
 have d_plan_while:Df (offC K) mg "plan_while" zae ["draws_on"]:=⟨_,_,(CK.func (zo (st:=zae) q12.l q12.c q12.k)),PySem.W.mg_of X G q12.a,(CK.func (zo (st:=zae) q12.l q12.c q12.k)).binds fun _ _ _ _ _ _ us hl=>match us,hl with | [_],_=>rfl⟩
 have d_led_to:Df (offC K) mg "led_to" zby ["place"]:=⟨_,_,(CK.func (zo (st:=zby) q13.l q13.c q13.k)),PySem.W.mg_of X G q13.a,(CK.func (zo (st:=zby) q13.l q13.c q13.k)).binds fun _ _ _ _ _ _ us hl=>match us,hl with | [_],_=>rfl⟩
 have d_after:Df (offC K) mg "after" zcu ["count","sign"]:=⟨_,_,(CK.func (zo (st:=zcu) q14.l q14.c q14.k)),PySem.W.mg_of X G q14.a,(CK.func (zo (st:=zcu) q14.l q14.c q14.k)).binds fun _ _ _ _ _ _ us hl=>match us,hl with | [_,_],_=>rfl⟩
 have d_ways_from:Df (offC K) mg "ways_from" zaM ["plan","beginning"]:=⟨_,_,(CK.func (zo (st:=zaM) q15.l q15.c q15.k)),PySem.W.mg_of X G q15.a,(CK.func (zo (st:=zaM) q15.l q15.c q15.k)).binds fun _ _ _ _ _ _ us hl=>match us,hl with | [_,_],_=>rfl⟩
 have d_check_shares:Df (offC K) mg "check_shares" zW ["low","high"]:=⟨_,_,(CK.func (zo (st:=zW) q16.l q16.c q16.k)),PySem.W.mg_of X G q16.a,(CK.func (zo (st:=zW) q16.l q16.c q16.k)).binds fun _ _ _ _ _ _ us hl=>match us,hl with | [_,_],_=>rfl⟩
 have d_check_most:Df (offC K) mg "check_most" zad ["most"]:=⟨_,_,(CK.func (zo (st:=zad) q17.l q17.c q17.k)),PySem.W.mg_of X G q17.a,(CK.func (zo (st:=zad) q17.l q17.c q17.k)).binds fun _ _ _ _ _ _ us hl=>match us,hl with | [_],_=>rfl⟩
 have d_often:Df (offC K) mg "often" zcE ["count","share"]:=⟨_,_,(CK.func (zo (st:=zcE) q18.l q18.c q18.k)),PySem.W.mg_of X G q18.a,(CK.func (zo (st:=zcE) q18.l q18.c q18.k)).binds fun _ _ _ _ _ _ us hl=>match us,hl with | [_,_],_=>rfl⟩
 have d_so_many:DfC (offC K) mg "so_many" za9 ["draws"] c19:=⟨_,_,(CK.func (zo (st:=za9) q19.l q19.c q19.k)),e19,PySem.W.mg_of X G q19.a,(CK.func (zo (st:=za9) q19.l q19.c q19.k)).binds fun _ _ _ _ _ _ us hl=>match us,hl with | [_],_=>rfl⟩
 have d_check:Df (offC K) mg "check" zcJ ["is_within_bounds"]:=⟨_,_,(CK.func (zo (st:=zcJ) q20.l q20.c q20.k)),PySem.W.mg_of X G q20.a,(CK.func (zo (st:=zcJ) q20.l q20.c q20.k)).binds fun _ _ _ _ _ _ us hl=>match us,hl with | [_],_=>rfl⟩
 have d_least_plan:Df (offC K) mg "least_plan" zac ["low","low_most","high","high_most","bound"]:=⟨_,_,(CK.func (zo (st:=zac) q21.l q21.c q21.k)),PySem.W.mg_of X G q21.a,(CK.func (zo (st:=zac) q21.l q21.c q21.k)).binds fun _ _ _ _ _ _ us hl=>match us,hl with | [_,_,_,_,_],_=>rfl⟩
 have d_tops_by_bad:Df (offC K) mg "tops_by_bad" z4 ["draws","share"]:=⟨_,_,(CK.func (zo (st:=z4) q22.l q22.c q22.k)),PySem.W.mg_of X G q22.a,(CK.func (zo (st:=z4) q22.l q22.c q22.k)).binds fun _ _ _ _ _ _ us hl=>match us,hl with | [_,_],_=>rfl⟩
 have d_keeps:Df (offC K) mg "keeps" zcK ["tops","draws","share","most"]:=⟨_,_,(CK.func (zo (st:=zcK) q23.l q23.c q23.k)),PySem.W.mg_of X G q23.a,(CK.func (zo (st:=zcK) q23.l q23.c q23.k)).binds fun _ _ _ _ _ _ us hl=>match us,hl with | [_,_,_,_],_=>rfl⟩
 have d_law_cell:Df (offC K) mg "_law_cell" za5 ["_law_script","_law_k"]:=⟨_,_,(CK.func (zo (st:=za5) q24.l q24.c q24.k)),PySem.W.mg_of X G q24.a,(CK.func (zo (st:=za5) q24.l q24.c q24.k)).binds fun _ _ _ _ _ _ us hl=>match us,hl with | [_,_],_=>rfl⟩
 have d_law_mixes:Df (offC K) mg "_law_mixes" zaR ["_law_cell_here","_law_base","_law_many"]:=⟨_,_,(CK.func (zo (st:=zaR) q26.l q26.c q26.k)),PySem.W.mg_of X G q26.a,(CK.func (zo (st:=zaR) q26.l q26.c q26.k)).binds fun _ _ _ _ _ _ us hl=>match us,hl with | [_,_,_],_=>rfl⟩
 have d_law_numbers:Df (offC K) mg "_law_numbers" z7 ["_law_cell_here","_law_bases"]:=⟨_,_,(CK.func (zo (st:=z7) q27.l q27.c q27.k)),PySem.W.mg_of X G q27.a,(CK.func (zo (st:=z7) q27.l q27.c q27.k)).binds fun _ _ _ _ _ _ us hl=>match us,hl with | [_,_],_=>rfl⟩
 have d_law_word:Df (offC K) mg "_law_word" zaJ ["_law_e"]:=⟨_,_,(CK.func (zo (st:=zaJ) q28.l q28.c q28.k)),PySem.W.mg_of X G q28.a,(CK.func (zo (st:=zaJ) q28.l q28.c q28.k)).binds fun _ _ _ _ _ _ us hl=>match us,hl with | [_],_=>rfl⟩
 have d_law_lowest:Df (offC K) mg "_law_lowest" zat ["_law_top","_law_bottom"]:=⟨_,_,(CK.func (zo (st:=zat) q29.l q29.c q29.k)),PySem.W.mg_of X G q29.a,(CK.func (zo (st:=zat) q29.l q29.c q29.k)).binds fun _ _ _ _ _ _ us hl=>match us,hl with | [_,_],_=>rfl⟩
 have d_law_answer:Df (offC K) mg "_law_answer" zaw ["_law_low","_law_low_most","_law_high","_law_high_most","_law_bound"]:=⟨_,_,(CK.func (zo (st:=zaw) q30.l q30.c q30.k)),PySem.W.mg_of X G q30.a,(CK.func (zo (st:=zaw) q30.l q30.c q30.k)).binds fun _ _ _ _ _ _ us hl=>match us,hl with | [_,_,_,_,_],_=>rfl⟩
 have d_law_due:Df (offC K) mg "_law_due" zbq ["_law_low","_law_low_most","_law_high","_law_high_most","_law_bound"]:=⟨_,_,(CK.func (zo (st:=zbq) q31.l q31.c q31.k)),PySem.W.mg_of X G q31.a,(CK.func (zo (st:=zbq) q31.l q31.c q31.k)).binds fun _ _ _ _ _ _ us hl=>match us,hl with | [_,_,_,_,_],_=>rfl⟩
 have d_law:Df (offC K) mg "law" zdH ["_law_script"]:=⟨_,_,(CK.func (zo (st:=zdH) q32.l q32.c q32.k)),PySem.W.mg_of X G q32.a,(CK.func (zo (st:=zdH) q32.l q32.c q32.k)).binds fun _ _ _ _ _ _ us hl=>match us,hl with | [_],_=>rfl⟩
 have C_LONG:Cn mg "LONG" (.int 4000):=⟨_,PySem.W.mg_of X G aLONG,⟨_,rfl⟩⟩
 have C_WINDOW:Cn mg "WINDOW" (.int 240):=⟨_,PySem.W.mg_of X G aWINDOW,⟨_,rfl⟩⟩
 have C_SHED:Cn mg "SHED" (.int 120):=⟨_,PySem.W.mg_of X G aSHED,⟨_,rfl⟩⟩
 have C_MOST_PLACES:Cn mg "MOST_PLACES" (.int 24):=⟨_,PySem.W.mg_of X G aMOST_PLACES,⟨_,rfl⟩⟩
 have C_NOUGHT:Cn mg "NOUGHT" (.ref pNOUGHT):=⟨_,PySem.W.mg_of X G aNOUGHT,rfl⟩
 have M_NOUGHT:(pNOUGHT,[V.int (0),V.int (1)])∈cstTab:=by rw [ct]; simp
 have C_WHOLE:Cn mg "WHOLE" (.ref pWHOLE):=⟨_,PySem.W.mg_of X G aWHOLE,rfl⟩
 have M_WHOLE:(pWHOLE,[V.int (1),V.int (1)])∈cstTab:=by rw [ct]; simp
 have B:Bs mg:=⟨PySem.W.mg_none_of X G z_len,PySem.W.mg_none_of X G z_range,PySem.W.mg_none_of X G z_isinstance,PySem.W.mg_none_of X G z_max,PySem.W.mg_none_of X G z_min,PySem.W.mg_none_of X G z_int,PySem.W.mg_none_of X G z_bool,PySem.W.mg_none_of X G z_tuple,PySem.W.mg_none_of X G z_list,PySem.W.mg_none_of X G z_abs,PySem.W.mg_none_of X G z_str,PySem.W.mg_none_of X G z_sum,PySem.W.mg_none_of X G z_sorted,PySem.W.mg_none_of X G z_reversed,PySem.W.mg_none_of X G z_enumerate,PySem.W.mg_none_of X G z_set,PySem.W.mg_none_of X G z_all,PySem.W.mg_none_of X G z_zip,PySem.W.mg_none_of X G z_any⟩
 have ML_so_many:(P19,(⟨143,22,143,56⟩:Pos),("so_many.<locals>.<lambda>":Str))∈lamTab:=by rw [lt]; simp
 have X_NoShares:∃ C tl,ExC (offC K) mg "NoShares" C VE tl "ValueError.__new__":=⟨_,zk5 (PySem.W.mg_of X G aNoShares) qxNoShares⟩
 have X_TooLong:∃ C tl,ExC (offC K) mg "TooLong" C VE tl "ValueError.__new__":=⟨_,zk5 (PySem.W.mg_of X G aTooLong) qxTooLong⟩
 have mL:=PySem.W.mg_of X G aL
 have zVE:=PySem.W.mg_none_of X G zE
 have CT:=zl8 (zhO X) G qc
 have kVE:=zmQ qc
 have CE:=zlA (zhO X) G qc
 refine ⟨CK,LO,PySem.W.fnOf "law" "law" (defArgs zdH) (defBody zdH) (defScope zdH) .none kV32 dc32 pm32 an32 cd32 ct32,fun s v=>.of_eq rfl,fun base _ _ BB=>?_⟩
 have D_leap:=zmv (P:=l.prog) (w:=w) (base:=base) d_leap B C_WINDOW C_SHED
 have D_greatest_divisor:=zb2 (P:=l.prog) (w:=w) (base:=base) d_greatest_divisor B C_LONG D_leap
 have D_frac:=zlI (P:=l.prog) (w:=w) (base:=base) d_frac B D_greatest_divisor
 have D_plus:=zlO (P:=l.prog) (w:=w) (base:=base) d_plus B D_frac D_greatest_divisor
 have D_minus:=zkw (P:=l.prog) (w:=w) (base:=base) d_minus B D_plus
 have D_power:=zky (P:=l.prog) (w:=w) (base:=base) d_power B
 have D_under:=zkf (P:=l.prog) (w:=w) (base:=base) d_under B
 have D_goes_on:=zhl (P:=l.prog) (w:=w) (base:=base) d_goes_on B
 have D_led_to:=zfi (P:=l.prog) (w:=w) (base:=base) d_led_to B
 have D_come_to:=zhh (P:=l.prog) (w:=w) (base:=base) d_come_to B D_led_to
 have D_ends:=zlo (P:=l.prog) (w:=w) (base:=base) d_ends B D_come_to D_goes_on
 have D_drawn_on:=zgp (P:=l.prog) (w:=w) (base:=base) d_drawn_on B
 have DC_plan_while:DnC l.prog w (offC K) mg 4 2 2 "plan_while" "draws_on" zau:=⟨let ⟨f,_,F,m,_⟩:=d_plan_while; ⟨f,m,F.kp⟩,fun base f c q G _ _ C=>by have D_led_to:=zfi (P:=l.prog) (w:=w) (base:=base) d_led_to B; exact zeq (P:=l.prog) (w:=w) (base:=base) d_plan_while B C_MOST_PLACES C D_led_to⟩
 have D_after:=zko (P:=l.prog) (w:=w) (base:=base) d_after B
 have D_ways_from:=ze4 (P:=l.prog) (w:=w) (base:=base) d_ways_from B D_after D_drawn_on
 have DR_check_shares:=zcU (P:=l.prog) (w:=w) (base:=base) d_check_shares B C_NOUGHT M_NOUGHT C_WHOLE M_WHOLE X_NoShares D_under
 have D_check_shares:=zdz (P:=l.prog) (w:=w) (base:=base) d_check_shares B C_NOUGHT M_NOUGHT C_WHOLE M_WHOLE D_under
 have DR_check_most:=zdI (P:=l.prog) (w:=w) (base:=base) d_check_most B C_NOUGHT M_NOUGHT C_WHOLE M_WHOLE X_NoShares D_under
 have D_check_most:=zem (P:=l.prog) (w:=w) (base:=base) d_check_most B C_NOUGHT M_NOUGHT C_WHOLE M_WHOLE D_under
 have D_often:=zj7 (P:=l.prog) (w:=w) (base:=base) d_often B C_WHOLE M_WHOLE D_minus D_power
 have D_check:=zkm (P:=l.prog) (w:=w) (base:=base) d_check B
 have D_so_many:=zhn (P:=l.prog) (w:=w) (base:=base) d_so_many B C_MOST_PLACES (znT CK HD_so_many) ML_so_many BB DC_plan_while D_check
 have D_keeps:=zkq (P:=l.prog) (w:=w) (base:=base) d_keeps B D_power D_under
 have D_tops_by_bad:=zdK (P:=l.prog) (w:=w) (base:=base) d_tops_by_bad B D_ends D_often D_so_many D_ways_from
 have DR_least_plan:=zdL (P:=l.prog) (w:=w) (base:=base) d_least_plan B C_MOST_PLACES X_TooLong DR_check_most DR_check_shares D_keeps D_tops_by_bad
 have D_least_plan:=zeN (P:=l.prog) (w:=w) (base:=base) d_least_plan B C_MOST_PLACES D_check_most D_check_shares D_keeps D_tops_by_bad
 have D_law_cell:=zgm (P:=l.prog) (w:=w) (base:=base) d_law_cell B
 have D_law_mixes:=zfQ (P:=l.prog) (w:=w) (base:=base) d_law_mixes B
 have D_law_numbers:=zdJ (P:=l.prog) (w:=w) (base:=base) d_law_numbers B D_law_mixes
 have DW_law_word:=zft (P:=l.prog) (w:=w) (base:=base) d_law_word B CT zVE kVE
 have D_law_lowest:=zel (P:=l.prog) (w:=w) (base:=base) d_law_lowest B
 have D_law_answer:=zeK (P:=l.prog) (w:=w) (base:=base) d_law_answer B mL CE DW_law_word DR_least_plan
 have D_law_due:=zhp (P:=l.prog) (w:=w) (base:=base) d_law_due B
 exact znM (P:=l.prog) (w:=w) (base:=base) (CK.func (zo (st:=zdH) q32.l q32.c q32.k)) B D_law_answer D_law_cell D_law_due D_law_lowest D_law_numbers
theorem walk {l:PySem.W.OpenLaw} {q:Program} {loose:List Str} {XP:(Str->Option Value)->Heap->Prop} {YP:World->Heap->Prop} {d:DefRec} {K:Params->PySem.W.Frag} (hn:l.most=some 63) (hdf:d.params.defaults=[])
  (hY:∀ (w:World) (h:Heap),YP w h->(K w.params).In h /\ ∀ p y q,(p,y,q)∈lamTab->h.get? p=some (PySem.W.tabObj #[]))
  (F:∀ (w:World) (mg:Str->Option Value) (fa:Addr) (h:Heap),(K w.params).In h->h.Ns mainGlobals mg->mg d.name=some (.ref fa)->
   CstOk (K w.params) /\ LamOk (K w.params) /\ ∃ fd:FuncData,(∀ (s:Shared) (u:Value),BindsTo s fd ⟨[u],[]⟩ [("_law_script",u)]) /\ ∀ base:Heap,(offC (K w.params)).In base->base.Ns mainGlobals mg->BAt mg base->FnOk l.prog w (offC (K w.params)) mg base CX0 10 fa fd ["_law_script"] (spD (offC (K w.params)) 1 zhz)):
  PySem.W.WalkO q loose XP YP l.row.toRowW d [] (fun f vs=>PySem.call f vs):=
 L2.zjY (n:=63) (k:=10) (x:="_law_script") (sp:=fun w=>spD (offC (K w.params)) 1 zhz) hn (by decide) hdf ⟨rfl,by decide,by decide⟩ hY F (fun _ _ a ns hl hS hC hT=>⟨rfl,[],[.list (ns.map PyData.int)],.bool true,⟨fun _ z=>by simp at z,hC,hT⟩,by rw [zlk]; exact .cons (.lst hS (HDs.ints ns)) .nil,zkQ ns hl,fun v H' s h=>by cases h; exact ⟨rfl,s⟩⟩)
end MyLaw
open PySem PySem.W PyProof.Rows
set_option tactic.hygienic true
set_option maxRecDepth 100000 in
set_option maxHeartbeats 0 in
theorem PySem.Challenge.cw_lotdraw_k56_search_refused_holds : PySem.Challenge.rw_lotdraw_k56_search_refused.Holds := by
 w_on; o_law
 refine PySem.W.holds_open (q:=MyLaw.viewP) (loose:=[]) (Xt:=MyLaw.hpX) (XP:=XL MyLaw.viewP []) (Yf:=Hook.obs (kmHook MyLaw.hpK MyLaw.hpA MyLaw.zmo MyLaw.hpT)) (Ya:=Hook.val (kmHook MyLaw.hpK MyLaw.hpA MyLaw.zmo MyLaw.hpT)) (YP:=Hook.says (kmHook MyLaw.hpK MyLaw.hpA MyLaw.zmo MyLaw.hpT)) (N:=9118) (Hd.zjt ?h1 rfl (fun _=>rfl) MyLaw.zmH MyLaw.zmu) (Hook.of _) (Hook.keeps _) (fun s e=>xl_of s (Bool.and_eq_true_iff.mp e).1) XL.keeps (by rfl) (by rfl) (by rfl) (fun s e=>recFacts_of (Bool.and_eq_true_iff.mp e).2) rfl (by first | assumption | decide +kernel) (by decide +kernel) ⟨rfl,rfl,rfl,rfl,rfl,by decide +kernel⟩ ?hw ?hc
 case h1=>kernel_rfl
 case hw=>w_witness2
 k_fill
 refine MyLaw.walk (l:=PySem.Challenge.rw_lotdraw_k56_search_refused) rfl rfl (fun w h Y=>⟨PySem.W.km_in_of Y,fun p y q m=>PySem.W.km_tabs_of Y p (L2.zm8 rfl m)⟩) ?F
 case F=>
  intro w mg fa h KX G hmg
  refine' MyLaw.znC KX G hmg ?q1 ?q2 ?q3 ?q4 ?q5 ?q6 ?q7 ?q8 ?q9 ?q10 ?q11 ?q12 ?q13 ?q14 ?q15 ?q16 ?q17 ?q18 ?q19 ?q20 ?q21 ?q22 ?q23 ?q24 ?q26 ?q27 ?q28 ?q29 ?q30 ?q31 ?q32 ?aLONG ?aWINDOW ?aSHED ?aMOST_PLACES ?aNOUGHT ?lNOUGHT ?aWHOLE ?lWHOLE ?z_len ?z_range ?z_isinstance ?z_max ?z_min ?z_int ?z_bool ?z_tuple ?z_list ?z_abs ?z_str ?z_sum ?z_sorted ?z_reversed ?z_enumerate ?z_set ?z_all ?z_zip ?z_any ?lt ?ct ?ne1_0 ?e19 ?HD_so_many ?kn19 ?aNoShares ?qxNoShares ?aTooLong ?qxTooLong ?aL ?zE ?qc
  (case q1=>refine' ⟨?x,?y,?z,?t⟩; (case x=>k_is); (case y=>k_is); (case z=>k_is); (case t=>k_is))
  (case q2=>refine' ⟨?x,?y,?z,?t⟩; (case x=>k_is); (case y=>k_is); (case z=>k_is); (case t=>k_is))
  (case q3=>refine' ⟨?x,?y,?z,?t⟩; (case x=>k_is); (case y=>k_is); (case z=>k_is); (case t=>k_is))
  (case q4=>refine' ⟨?x,?y,?z,?t⟩; (case x=>k_is); (case y=>k_is); (case z=>k_is); (case t=>k_is))
  (case q5=>refine' ⟨?x,?y,?z,?t⟩; (case x=>k_is); (case y=>k_is); (case z=>k_is); (case t=>k_is))
  (case q6=>refine' ⟨?x,?y,?z,?t⟩; (case x=>k_is); (case y=>k_is); (case z=>k_is); (case t=>k_is))
  (case q7=>refine' ⟨?x,?y,?z,?t⟩; (case x=>k_is); (case y=>k_is); (case z=>k_is); (case t=>k_is))
  (case q8=>refine' ⟨?x,?y,?z,?t⟩; (case x=>k_is); (case y=>k_is); (case z=>k_is); (case t=>k_is))
  (case q9=>refine' ⟨?x,?y,?z,?t⟩; (case x=>k_is); (case y=>k_is); (case z=>k_is); (case t=>k_is))
  (case q10=>refine' ⟨?x,?y,?z,?t⟩; (case x=>k_is); (case y=>k_is); (case z=>k_is); (case t=>k_is))
  (case q11=>refine' ⟨?x,?y,?z,?t⟩; (case x=>k_is); (case y=>k_is); (case z=>k_is); (case t=>k_is))
  (case q12=>refine' ⟨?x,?y,?z,?t⟩; (case x=>k_is); (case y=>k_is); (case z=>k_is); (case t=>k_is))
  (case q13=>refine' ⟨?x,?y,?z,?t⟩; (case x=>k_is); (case y=>k_is); (case z=>k_is); (case t=>k_is))
  (case q14=>refine' ⟨?x,?y,?z,?t⟩; (case x=>k_is); (case y=>k_is); (case z=>k_is); (case t=>k_is))
  (case q15=>refine' ⟨?x,?y,?z,?t⟩; (case x=>k_is); (case y=>k_is); (case z=>k_is); (case t=>k_is))
  (case q16=>refine' ⟨?x,?y,?z,?t⟩; (case x=>k_is); (case y=>k_is); (case z=>k_is); (case t=>k_is))
  (case q17=>refine' ⟨?x,?y,?z,?t⟩; (case x=>k_is); (case y=>k_is); (case z=>k_is); (case t=>k_is))
  (case q18=>refine' ⟨?x,?y,?z,?t⟩; (case x=>k_is); (case y=>k_is); (case z=>k_is); (case t=>k_is))
  (case q19=>refine' ⟨?x,?y,?z,?t⟩; (case x=>k_is); (case y=>k_is); (case z=>k_is); (case t=>k_is))
  (case q20=>refine' ⟨?x,?y,?z,?t⟩; (case x=>k_is); (case y=>k_is); (case z=>k_is); (case t=>k_is))
  (case q21=>refine' ⟨?x,?y,?z,?t⟩; (case x=>k_is); (case y=>k_is); (case z=>k_is); (case t=>k_is))
  (case q22=>refine' ⟨?x,?y,?z,?t⟩; (case x=>k_is); (case y=>k_is); (case z=>k_is); (case t=>k_is))
  (case q23=>refine' ⟨?x,?y,?z,?t⟩; (case x=>k_is); (case y=>k_is); (case z=>k_is); (case t=>k_is))
  (case q24=>refine' ⟨?x,?y,?z,?t⟩; (case x=>k_is); (case y=>k_is); (case z=>k_is); (case t=>k_is))
  (case q26=>refine' ⟨?x,?y,?z,?t⟩; (case x=>k_is); (case y=>k_is); (case z=>k_is); (case t=>k_is))
  (case q27=>refine' ⟨?x,?y,?z,?t⟩; (case x=>k_is); (case y=>k_is); (case z=>k_is); (case t=>k_is))
  (case q28=>refine' ⟨?x,?y,?z,?t⟩; (case x=>k_is); (case y=>k_is); (case z=>k_is); (case t=>k_is))
  (case q29=>refine' ⟨?x,?y,?z,?t⟩; (case x=>k_is); (case y=>k_is); (case z=>k_is); (case t=>k_is))
  (case q30=>refine' ⟨?x,?y,?z,?t⟩; (case x=>k_is); (case y=>k_is); (case z=>k_is); (case t=>k_is))
  (case q31=>refine' ⟨?x,?y,?z,?t⟩; (case x=>k_is); (case y=>k_is); (case z=>k_is); (case t=>k_is))
  (case q32=>refine' ⟨?x,?y,?z,?t⟩; (case x=>k_is); (case y=>k_is); (case z=>k_is); (case t=>k_is))
  (case aLONG=>k_is)
  (case aWINDOW=>k_is)
  (case aSHED=>k_is)
  (case aMOST_PLACES=>k_is)
  (case aNOUGHT=>k_is)
  (case lNOUGHT=>k_is)
  (case aWHOLE=>k_is)
  (case lWHOLE=>k_is)
  (case z_len=>kernel_rfl)
  (case z_range=>kernel_rfl)
  (case z_isinstance=>kernel_rfl)
  (case z_max=>kernel_rfl)
  (case z_min=>kernel_rfl)
  (case z_int=>kernel_rfl)
  (case z_bool=>kernel_rfl)
  (case z_tuple=>kernel_rfl)
  (case z_list=>kernel_rfl)
  (case z_abs=>kernel_rfl)
  (case z_str=>kernel_rfl)
  (case z_sum=>kernel_rfl)
  (case z_sorted=>kernel_rfl)
  (case z_reversed=>kernel_rfl)
  (case z_enumerate=>kernel_rfl)
  (case z_set=>kernel_rfl)
  (case z_all=>kernel_rfl)
  (case z_zip=>kernel_rfl)
  (case z_any=>kernel_rfl)
  (case lt=>rfl)
  (case ct=>rfl)
  (case ne1_0=>decide)
  (case e19=>rfl)
  (case HD_so_many=>kernel_rfl)
  (case kn19=>kernel_rfl)
  (case aNoShares=>k_is)
  (case qxNoShares=>kernel_rfl)
  (case aTooLong=>k_is)
  (case qxTooLong=>kernel_rfl)
  (case aL=>k_is)
  (case zE=>kernel_rfl)
  (case qc=>kernel_rfl)
