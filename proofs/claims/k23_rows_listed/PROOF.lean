import PyProof.Rows.All
import Wide.All
import OpenK.AllK
import Wide.FinOn
import Lean
import PyProof.EqAt
import PyProof.EqKinds
import PyProof.TupleCall
import PySem.Challenge.RW_lotdraw_k23_rows_listed
set_option Elab.async false
set_option linter.all false
set_option maxRecDepth 100000
set_option tactic.hygienic false
namespace L2
open PySem
noncomputable def defArgs (s:Stmt):Arguments:=match s with
 | .FunctionDef _ a _ _ _ _ _ _ _ _=>a
 | _=>{ posonlyargs:=[],args:=[],vararg:=none,kwonlyargs:=[],kw_defaults:=[],kwarg:=none,defaults:=[] }
noncomputable def defBody (s:Stmt):List Stmt:=match s with
 | .FunctionDef _ _ b _ _ _ _ _ _ _=>b
 | _=>[]
noncomputable def defScope (s:Stmt):Scope:=match s with
 | .FunctionDef _ _ _ _ _ _ sc _ _ _=>sc
 | _=>{ kind:=.function,names:=[],isGenerator:=false,isCoroutine:=false }
end L2
namespace Hd
open PySem PySem.W
noncomputable def runT (tb:String->Option Builtin) (p:Program) (w:World) (m:Nat) (ann:Option Value):Nat->SharedT->Thread->Option SharedT
 | 0,_,_=>none
 | n + 1,s,t=>match through t with
   | true=>some s
   | false=>match stepOk m ann t with
     | false=>none
     | true=>match stepT (denote tb) p w s t with
       | some (s',t')=>runT tb p w m ann n s' t'
       | none=>none
theorem zgO {tb:String->Option Builtin} {p:Program} {w:World} {m:Nat} {ann:Option Value}:∀ {n:Nat} {s s':SharedT} {t:Thread},runT tb p w m ann n s t=some s'->topRun tb p w m ann n s.abs t=some s'.abs
 | 0,_,_,_,h=>by cases h
 | n + 1,s,s',t,h=>by
   unfold runT at h
   unfold topRun
   cases he:through t with
   | true=>rw [he] at h; cases h; rfl
   | false=>
     rw [he] at h
     cases hk:stepOk m ann t with
     | false=>rw [hk] at h; cases h
     | true=>
       rw [hk] at h
       cases hs:stepT (denote tb) p w s t with
       | none=>rw [hs] at h; cases h
       | some r=>obtain ⟨s2,t2⟩:=r; rw [hs] at h; rw [stepT_spec hs]; exact zgO h
noncomputable def bootT (P:Params):BT:=(.node (boot_o_0 P) (.node (boot_o_1 P) (.node (boot_o_3 P) (.node (boot_o_7 P) .nil .nil) .nil) (.node (boot_o_5 P) (.node (boot_o_9 P) .nil .nil) .nil)) (.node (boot_o_2 P) (.node (boot_o_4 P) (.node (boot_o_8 P) .nil .nil) .nil) (.node (boot_o_6 P) (.node (boot_o_10 P) .nil .nil) .nil)))
theorem zjB (P:Params):boot_heap P=absHeap (bootT P) 11 (boot_heap P).life:=by kernel_rfl
noncomputable def bootS (w:World) (os:OsState):SharedT:=⟨bootT w.params,11,(boot_heap w.params).life,Array.mk [],boot_drawn,boot_toks,os⟩
theorem zk9 (w:World) (os:OsState):(bootS w os).abs=⟨boot_heap w.params,Array.mk [],boot_drawn,boot_toks,os⟩:=by
 show Shared.mk (absHeap (bootT w.params) 11 (boot_heap w.params).life) _ _ _ _=_
 rw [<- zjB]; rfl
theorem zhX (P:Params):((boot_heap P).isNs mainGlobals,(boot_heap P).objs.size,(boot_heap P).nsMap mainGlobals "__annotations__")=(true,11,some (.ref 6)):=by kernel_rfl
theorem zib {p q:Program} {loose:List Str} {Xt:Shared->Bool} {α:Type} {Yf:Shared->α} {Ya:World->α} {N:Nat} (e:opening p=plainProg p.main.scope.names) (hN:Nat.ble 600 N=true) (f:∀ s,fenceModules? p s=some s)
  (one:∀ (w:World) (os:OsState),(runT treeTable p w 11 (some (.ref 6)) N (bootS w os) (topStub p)).map (fun s=>((staticsOk (importedModules p.main.body) (boot_heap w.params) s.abs.heap && namesBound p s.abs.heap && gensDone s.abs && laidKept (boot_heap w.params) s.abs.heap),Yf s.abs))=some (true,Ya w))
  (two:∀ (w:World) (os:OsState),(runT treeTable p w 11 (some (.ref 6)) N (bootS w os) (topStub p)).map (fun s=>openSeen q loose (importedModules p.main.body) Xt true s.abs)=some (openGood q loose)):
  LeftO p q loose Xt Yf Ya N:=fun w=>by
 obtain ⟨⟨h,gs,d,k,os⟩,e1,e2⟩:=Option.map_eq_some_iff.mp (boot_open e hN f w)
 obtain ⟨rfl,rfl,rfl,rfl⟩:h=boot_heap w.params /\ gs=Array.mk [] /\ d=boot_drawn /\ k=boot_toks:=by simpa using e2
 obtain ⟨s,r,l⟩:=Option.map_eq_some_iff.mp (one w os)
 obtain ⟨l1,l3⟩:_ /\ _:=by simpa only [Prod.mk.injEq] using l
 have l2:openSeen q loose (importedModules p.main.body) Xt true s.abs=openGood q loose:=by
  have:=two w os
  rw [r] at this
  exact Option.some.inj this
 obtain ⟨z1,z2,z3⟩:_ /\ _ /\ _:=by simpa only [Prod.mk.injEq] using zhX w.params
 have r':=zgO r
 rw [zk9] at r'
 have t:topFrom treeTable p w N ⟨boot_heap w.params,Array.mk [],boot_drawn,boot_toks,os⟩=some s.abs:=by
  unfold topFrom
  dsimp only
  rw [z1,z2,z3,r']
  show (match staticsOk (importedModules p.main.body) (boot_heap w.params) s.abs.heap && namesBound p s.abs.heap && gensDone s.abs && laidKept (boot_heap w.params) s.abs.heap with | true=>_ | false=>_)=_
  rw [l1]
 unfold openEnds
 rw [e1]
 show (topFrom treeTable p w N ⟨boot_heap w.params,Array.mk [],boot_drawn,boot_toks,os⟩).map _=_
 rw [t,Option.map_some,l2,l3]
end Hd
namespace MyLaw
open PySem PySem.W L2
noncomputable def top (i:Nat):Stmt:=PySem.Challenge.pw_lotdraw_k23_rows_listed.main.body.getD i (.Pass ⟨0,0,0,0⟩)
end MyLaw
namespace MyLaw
open PySem PySem.W L2
noncomputable def viewP:Program:={ PySem.Challenge.pw_lotdraw_k23_rows_listed with main:={ PySem.Challenge.pw_lotdraw_k23_rows_listed.main with body:=[top 1,top 2,top 3,top 4,top 5,top 6,top 7,top 8,top 9,top 10,top 11,top 12,top 13,top 14,top 15,top 16,top 18,top 19,top 20,top 21,top 22,top 23,top 25,top 27,top 28,top 29,top 31,top 32,top 33,top 34,top 35,top 36,top 37,top 38,top 39,top 40,top 41] } }
noncomputable def hpK:Params->Frag:=fun P=>(nat_lit 2,⟨.none,none,(.dict #[] 0),#[]⟩) ::
 (nat_lit 3,⟨(.type "dict"),none,(.dict #[⟨(PyData.keyHash P "__name__"),(.str "__name__" 165),(.str "law_lotdraw_k23_rows_listed" 524)⟩,⟨(PyData.keyHash P "__doc__"),(.str "__doc__" 166),.none⟩,⟨(PyData.keyHash P "__package__"),(.str "__package__" 167),.none⟩,⟨(PyData.keyHash P "__loader__"),(.str "__loader__" 168),(.builtin "__main__.__loader__#opaque")⟩,⟨(PyData.keyHash P "__spec__"),(.str "__spec__" 169),.none⟩,⟨(PyData.keyHash P "__annotations__"),(.str "__annotations__" 170),(.ref 6)⟩,⟨(PyData.keyHash P "__builtins__"),(.str "__builtins__" 171),(.ref 4)⟩,⟨(PyData.keyHash P "__file__"),(.str "__file__" 173),(.str "/claim/cut.py" 172)⟩,⟨(PyData.keyHash P "__cached__"),(.str "__cached__" 174),.none⟩,⟨(PyData.keyHash P "LotError"),(.str "LotError" 206),(.ref 24)⟩,⟨(PyData.keyHash P "NoNumber"),(.str "NoNumber" 222),(.ref 37)⟩,⟨(PyData.keyHash P "NoPlan"),(.str "NoPlan" 238),(.ref 49)⟩,⟨(PyData.keyHash P "TooLong"),(.str "TooLong" 254),(.ref 61)⟩,⟨(PyData.keyHash P "NoText"),(.str "NoText" 270),(.ref 73)⟩,⟨(PyData.keyHash P "NoEnd"),(.str "NoEnd" 286),(.ref 85)⟩,⟨(PyData.keyHash P "TooMany"),(.str "TooMany" 302),(.ref 97)⟩,⟨(PyData.keyHash P "NoRow"),(.str "NoRow" 318),(.ref 109)⟩,⟨(PyData.keyHash P "NoTelling"),(.str "NoTelling" 334),(.ref 121)⟩,⟨(PyData.keyHash P "NoLot"),(.str "NoLot" 350),(.ref 133)⟩,⟨(PyData.keyHash P "NotOnly"),(.str "NotOnly" 366),(.ref 145)⟩,⟨(PyData.keyHash P "Only"),(.str "Only" 382),(.ref 157)⟩,⟨(PyData.keyHash P "NoShares"),(.str "NoShares" 398),(.ref 169)⟩,⟨(PyData.keyHash P "NoDeed"),(.str "NoDeed" 414),(.ref 181)⟩,⟨(PyData.keyHash P "NoName"),(.str "NoName" 430),(.ref 193)⟩,⟨(PyData.keyHash P "NoDraw"),(.str "NoDraw" 446),(.ref 205)⟩,⟨(PyData.keyHash P "goes_on"),(.str "goes_on" 457),(.ref 214)⟩,⟨(PyData.keyHash P "come_to"),(.str "come_to" 463),(.ref 219)⟩,⟨(PyData.keyHash P "ends"),(.str "ends" 469),(.ref 224)⟩,⟨(PyData.keyHash P "drawn_on"),(.str "drawn_on" 475),(.ref 229)⟩,⟨(PyData.keyHash P "led_to"),(.str "led_to" 481),(.ref 234)⟩,⟨(PyData.keyHash P "after"),(.str "after" 489),(.ref 241)⟩,⟨(PyData.keyHash P "ways_from"),(.str "ways_from" 503),(.ref 248)⟩,⟨(PyData.keyHash P "MOST_ROWS"),(.str "MOST_ROWS" 507),(.int 4000 506)⟩,⟨(PyData.keyHash P "rows_of"),(.str "rows_of" 513),(.ref 253)⟩,⟨(PyData.keyHash P "rows_behind"),(.str "rows_behind" 523),(.ref 260)⟩,⟨(PyData.keyHash P "_law_cell"),(.str "_law_cell" 533),(.ref 267)⟩,⟨(PyData.keyHash P "_law_digits"),(.str "_law_digits" 544),(.ref 274)⟩,⟨(PyData.keyHash P "_law_mixes"),(.str "_law_mixes" 556),(.ref 281)⟩,⟨(PyData.keyHash P "_law_plan"),(.str "_law_plan" 562),(.ref 286)⟩,⟨(PyData.keyHash P "_law_most"),(.str "_law_most" 569),(.ref 293)⟩,⟨(PyData.keyHash P "_law_rows"),(.str "_law_rows" 580),(.ref 300)⟩,⟨(PyData.keyHash P "_law_ways"),(.str "_law_ways" 593),(.ref 307)⟩,⟨(PyData.keyHash P "_law_ends"),(.str "_law_ends" 599),(.ref 312)⟩,⟨(PyData.keyHash P "_law_word"),(.str "_law_word" 605),(.ref 317)⟩,⟨(PyData.keyHash P "_law_listed"),(.str "_law_listed" 614),(.ref 324)⟩,⟨(PyData.keyHash P "law"),(.str "law" 620),(.ref 329)⟩] 46),#[]⟩) ::
 (nat_lit 23,⟨(.type "dict"),none,(.dict #[⟨(PyData.keyHash P "__module__"),(.str "__module__" 196),(.str "lotdraw.errors" 187)⟩,⟨(PyData.keyHash P "__firstlineno__"),(.str "__firstlineno__" 200),(.int 2 199)⟩,⟨(PyData.keyHash P "__static_attributes__"),(.str "__static_attributes__" 201),(.ref 22)⟩,⟨(PyData.keyHash P "__weakref__"),(.str "__weakref__" 203),(.ref 25)⟩,⟨(PyData.keyHash P "__doc__"),(.str "__doc__" 204),.none⟩] 3),#[]⟩) ::
 (nat_lit 24,⟨(.type "type"),none,(.cls ⟨"LotError",[(.type "ValueError")],[(.ref 24),(.type "ValueError"),(.type "Exception"),(.type "BaseException"),(.type "object")],23,"LotError",true,[],[(.ref 37),(.ref 49),(.ref 61),(.ref 73),(.ref 85),(.ref 97),(.ref 109),(.ref 121),(.ref 133),(.ref 145),(.ref 157),(.ref 169),(.ref 181),(.ref 193),(.ref 205)],false,none,false⟩),#[(some (.ref 15)),none,(some (.str "LotError" 189)),(some (.str "LotError" 197)),(some (.builtin "ValueError.__new__")),(some (.bool true))]⟩) ::
 (nat_lit 25,⟨(.type "getset_descriptor"),none,(.fields #[(.str "__weakref__" 202),(.ref 24),(.builtin "ExceptionGroup.__weakref__"),.none]),#[]⟩) ::
 (nat_lit 36,⟨(.type "dict"),none,(.dict #[⟨(PyData.keyHash P "__module__"),(.str "__module__" 214),(.str "lotdraw.errors" 187)⟩,⟨(PyData.keyHash P "__firstlineno__"),(.str "__firstlineno__" 218),(.int 4 217)⟩,⟨(PyData.keyHash P "__static_attributes__"),(.str "__static_attributes__" 219),(.ref 35)⟩,⟨(PyData.keyHash P "__doc__"),(.str "__doc__" 220),.none⟩] 2),#[]⟩) ::
 (nat_lit 37,⟨(.type "type"),none,(.cls ⟨"NoNumber",[(.ref 24)],[(.ref 37),(.ref 24),(.type "ValueError"),(.type "Exception"),(.type "BaseException"),(.type "object")],36,"NoNumber",true,[],[],false,none,false⟩),#[(some (.ref 28)),none,(some (.str "NoNumber" 207)),(some (.str "NoNumber" 215)),(some (.builtin "ValueError.__new__")),(some (.bool true))]⟩) ::
 (nat_lit 48,⟨(.type "dict"),none,(.dict #[⟨(PyData.keyHash P "__module__"),(.str "__module__" 230),(.str "lotdraw.errors" 187)⟩,⟨(PyData.keyHash P "__firstlineno__"),(.str "__firstlineno__" 234),(.int 6 233)⟩,⟨(PyData.keyHash P "__static_attributes__"),(.str "__static_attributes__" 235),(.ref 47)⟩,⟨(PyData.keyHash P "__doc__"),(.str "__doc__" 236),.none⟩] 2),#[]⟩) ::
 (nat_lit 49,⟨(.type "type"),none,(.cls ⟨"NoPlan",[(.ref 24)],[(.ref 49),(.ref 24),(.type "ValueError"),(.type "Exception"),(.type "BaseException"),(.type "object")],48,"NoPlan",true,[],[],false,none,false⟩),#[(some (.ref 40)),none,(some (.str "NoPlan" 223)),(some (.str "NoPlan" 231)),(some (.builtin "ValueError.__new__")),(some (.bool true))]⟩) ::
 (nat_lit 60,⟨(.type "dict"),none,(.dict #[⟨(PyData.keyHash P "__module__"),(.str "__module__" 246),(.str "lotdraw.errors" 187)⟩,⟨(PyData.keyHash P "__firstlineno__"),(.str "__firstlineno__" 250),(.int 8 249)⟩,⟨(PyData.keyHash P "__static_attributes__"),(.str "__static_attributes__" 251),(.ref 59)⟩,⟨(PyData.keyHash P "__doc__"),(.str "__doc__" 252),.none⟩] 2),#[]⟩) ::
 (nat_lit 61,⟨(.type "type"),none,(.cls ⟨"TooLong",[(.ref 24)],[(.ref 61),(.ref 24),(.type "ValueError"),(.type "Exception"),(.type "BaseException"),(.type "object")],60,"TooLong",true,[],[],false,none,false⟩),#[(some (.ref 52)),none,(some (.str "TooLong" 239)),(some (.str "TooLong" 247)),(some (.builtin "ValueError.__new__")),(some (.bool true))]⟩) ::
 (nat_lit 72,⟨(.type "dict"),none,(.dict #[⟨(PyData.keyHash P "__module__"),(.str "__module__" 262),(.str "lotdraw.errors" 187)⟩,⟨(PyData.keyHash P "__firstlineno__"),(.str "__firstlineno__" 266),(.int 10 265)⟩,⟨(PyData.keyHash P "__static_attributes__"),(.str "__static_attributes__" 267),(.ref 71)⟩,⟨(PyData.keyHash P "__doc__"),(.str "__doc__" 268),.none⟩] 2),#[]⟩) ::
 (nat_lit 73,⟨(.type "type"),none,(.cls ⟨"NoText",[(.ref 24)],[(.ref 73),(.ref 24),(.type "ValueError"),(.type "Exception"),(.type "BaseException"),(.type "object")],72,"NoText",true,[],[],false,none,false⟩),#[(some (.ref 64)),none,(some (.str "NoText" 255)),(some (.str "NoText" 263)),(some (.builtin "ValueError.__new__")),(some (.bool true))]⟩) ::
 (nat_lit 84,⟨(.type "dict"),none,(.dict #[⟨(PyData.keyHash P "__module__"),(.str "__module__" 278),(.str "lotdraw.errors" 187)⟩,⟨(PyData.keyHash P "__firstlineno__"),(.str "__firstlineno__" 282),(.int 12 281)⟩,⟨(PyData.keyHash P "__static_attributes__"),(.str "__static_attributes__" 283),(.ref 83)⟩,⟨(PyData.keyHash P "__doc__"),(.str "__doc__" 284),.none⟩] 2),#[]⟩) ::
 (nat_lit 85,⟨(.type "type"),none,(.cls ⟨"NoEnd",[(.ref 24)],[(.ref 85),(.ref 24),(.type "ValueError"),(.type "Exception"),(.type "BaseException"),(.type "object")],84,"NoEnd",true,[],[],false,none,false⟩),#[(some (.ref 76)),none,(some (.str "NoEnd" 271)),(some (.str "NoEnd" 279)),(some (.builtin "ValueError.__new__")),(some (.bool true))]⟩) ::
 (nat_lit 96,⟨(.type "dict"),none,(.dict #[⟨(PyData.keyHash P "__module__"),(.str "__module__" 294),(.str "lotdraw.errors" 187)⟩,⟨(PyData.keyHash P "__firstlineno__"),(.str "__firstlineno__" 298),(.int 14 297)⟩,⟨(PyData.keyHash P "__static_attributes__"),(.str "__static_attributes__" 299),(.ref 95)⟩,⟨(PyData.keyHash P "__doc__"),(.str "__doc__" 300),.none⟩] 2),#[]⟩) ::
 (nat_lit 97,⟨(.type "type"),none,(.cls ⟨"TooMany",[(.ref 24)],[(.ref 97),(.ref 24),(.type "ValueError"),(.type "Exception"),(.type "BaseException"),(.type "object")],96,"TooMany",true,[],[],false,none,false⟩),#[(some (.ref 88)),none,(some (.str "TooMany" 287)),(some (.str "TooMany" 295)),(some (.builtin "ValueError.__new__")),(some (.bool true))]⟩) ::
 (nat_lit 108,⟨(.type "dict"),none,(.dict #[⟨(PyData.keyHash P "__module__"),(.str "__module__" 310),(.str "lotdraw.errors" 187)⟩,⟨(PyData.keyHash P "__firstlineno__"),(.str "__firstlineno__" 314),(.int 16 313)⟩,⟨(PyData.keyHash P "__static_attributes__"),(.str "__static_attributes__" 315),(.ref 107)⟩,⟨(PyData.keyHash P "__doc__"),(.str "__doc__" 316),.none⟩] 2),#[]⟩) ::
 (nat_lit 109,⟨(.type "type"),none,(.cls ⟨"NoRow",[(.ref 24)],[(.ref 109),(.ref 24),(.type "ValueError"),(.type "Exception"),(.type "BaseException"),(.type "object")],108,"NoRow",true,[],[],false,none,false⟩),#[(some (.ref 100)),none,(some (.str "NoRow" 303)),(some (.str "NoRow" 311)),(some (.builtin "ValueError.__new__")),(some (.bool true))]⟩) ::
 (nat_lit 120,⟨(.type "dict"),none,(.dict #[⟨(PyData.keyHash P "__module__"),(.str "__module__" 326),(.str "lotdraw.errors" 187)⟩,⟨(PyData.keyHash P "__firstlineno__"),(.str "__firstlineno__" 330),(.int 18 329)⟩,⟨(PyData.keyHash P "__static_attributes__"),(.str "__static_attributes__" 331),(.ref 119)⟩,⟨(PyData.keyHash P "__doc__"),(.str "__doc__" 332),.none⟩] 2),#[]⟩) ::
 (nat_lit 121,⟨(.type "type"),none,(.cls ⟨"NoTelling",[(.ref 24)],[(.ref 121),(.ref 24),(.type "ValueError"),(.type "Exception"),(.type "BaseException"),(.type "object")],120,"NoTelling",true,[],[],false,none,false⟩),#[(some (.ref 112)),none,(some (.str "NoTelling" 319)),(some (.str "NoTelling" 327)),(some (.builtin "ValueError.__new__")),(some (.bool true))]⟩) ::
 (nat_lit 132,⟨(.type "dict"),none,(.dict #[⟨(PyData.keyHash P "__module__"),(.str "__module__" 342),(.str "lotdraw.errors" 187)⟩,⟨(PyData.keyHash P "__firstlineno__"),(.str "__firstlineno__" 346),(.int 20 345)⟩,⟨(PyData.keyHash P "__static_attributes__"),(.str "__static_attributes__" 347),(.ref 131)⟩,⟨(PyData.keyHash P "__doc__"),(.str "__doc__" 348),.none⟩] 2),#[]⟩) ::
 (nat_lit 133,⟨(.type "type"),none,(.cls ⟨"NoLot",[(.ref 24)],[(.ref 133),(.ref 24),(.type "ValueError"),(.type "Exception"),(.type "BaseException"),(.type "object")],132,"NoLot",true,[],[],false,none,false⟩),#[(some (.ref 124)),none,(some (.str "NoLot" 335)),(some (.str "NoLot" 343)),(some (.builtin "ValueError.__new__")),(some (.bool true))]⟩) ::
 (nat_lit 144,⟨(.type "dict"),none,(.dict #[⟨(PyData.keyHash P "__module__"),(.str "__module__" 358),(.str "lotdraw.errors" 187)⟩,⟨(PyData.keyHash P "__firstlineno__"),(.str "__firstlineno__" 362),(.int 22 361)⟩,⟨(PyData.keyHash P "__static_attributes__"),(.str "__static_attributes__" 363),(.ref 143)⟩,⟨(PyData.keyHash P "__doc__"),(.str "__doc__" 364),.none⟩] 2),#[]⟩) ::
 (nat_lit 145,⟨(.type "type"),none,(.cls ⟨"NotOnly",[(.ref 24)],[(.ref 145),(.ref 24),(.type "ValueError"),(.type "Exception"),(.type "BaseException"),(.type "object")],144,"NotOnly",true,[],[],false,none,false⟩),#[(some (.ref 136)),none,(some (.str "NotOnly" 351)),(some (.str "NotOnly" 359)),(some (.builtin "ValueError.__new__")),(some (.bool true))]⟩) ::
 (nat_lit 156,⟨(.type "dict"),none,(.dict #[⟨(PyData.keyHash P "__module__"),(.str "__module__" 374),(.str "lotdraw.errors" 187)⟩,⟨(PyData.keyHash P "__firstlineno__"),(.str "__firstlineno__" 378),(.int 24 377)⟩,⟨(PyData.keyHash P "__static_attributes__"),(.str "__static_attributes__" 379),(.ref 155)⟩,⟨(PyData.keyHash P "__doc__"),(.str "__doc__" 380),.none⟩] 2),#[]⟩) ::
 (nat_lit 157,⟨(.type "type"),none,(.cls ⟨"Only",[(.ref 24)],[(.ref 157),(.ref 24),(.type "ValueError"),(.type "Exception"),(.type "BaseException"),(.type "object")],156,"Only",true,[],[],false,none,false⟩),#[(some (.ref 148)),none,(some (.str "Only" 367)),(some (.str "Only" 375)),(some (.builtin "ValueError.__new__")),(some (.bool true))]⟩) ::
 (nat_lit 168,⟨(.type "dict"),none,(.dict #[⟨(PyData.keyHash P "__module__"),(.str "__module__" 390),(.str "lotdraw.errors" 187)⟩,⟨(PyData.keyHash P "__firstlineno__"),(.str "__firstlineno__" 394),(.int 26 393)⟩,⟨(PyData.keyHash P "__static_attributes__"),(.str "__static_attributes__" 395),(.ref 167)⟩,⟨(PyData.keyHash P "__doc__"),(.str "__doc__" 396),.none⟩] 2),#[]⟩) ::
 (nat_lit 169,⟨(.type "type"),none,(.cls ⟨"NoShares",[(.ref 24)],[(.ref 169),(.ref 24),(.type "ValueError"),(.type "Exception"),(.type "BaseException"),(.type "object")],168,"NoShares",true,[],[],false,none,false⟩),#[(some (.ref 160)),none,(some (.str "NoShares" 383)),(some (.str "NoShares" 391)),(some (.builtin "ValueError.__new__")),(some (.bool true))]⟩) ::
 (nat_lit 180,⟨(.type "dict"),none,(.dict #[⟨(PyData.keyHash P "__module__"),(.str "__module__" 406),(.str "lotdraw.errors" 187)⟩,⟨(PyData.keyHash P "__firstlineno__"),(.str "__firstlineno__" 410),(.int 28 409)⟩,⟨(PyData.keyHash P "__static_attributes__"),(.str "__static_attributes__" 411),(.ref 179)⟩,⟨(PyData.keyHash P "__doc__"),(.str "__doc__" 412),.none⟩] 2),#[]⟩) ::
 (nat_lit 181,⟨(.type "type"),none,(.cls ⟨"NoDeed",[(.ref 24)],[(.ref 181),(.ref 24),(.type "ValueError"),(.type "Exception"),(.type "BaseException"),(.type "object")],180,"NoDeed",true,[],[],false,none,false⟩),#[(some (.ref 172)),none,(some (.str "NoDeed" 399)),(some (.str "NoDeed" 407)),(some (.builtin "ValueError.__new__")),(some (.bool true))]⟩) ::
 (nat_lit 192,⟨(.type "dict"),none,(.dict #[⟨(PyData.keyHash P "__module__"),(.str "__module__" 422),(.str "lotdraw.errors" 187)⟩,⟨(PyData.keyHash P "__firstlineno__"),(.str "__firstlineno__" 426),(.int 30 425)⟩,⟨(PyData.keyHash P "__static_attributes__"),(.str "__static_attributes__" 427),(.ref 191)⟩,⟨(PyData.keyHash P "__doc__"),(.str "__doc__" 428),.none⟩] 2),#[]⟩) ::
 (nat_lit 193,⟨(.type "type"),none,(.cls ⟨"NoName",[(.ref 24)],[(.ref 193),(.ref 24),(.type "ValueError"),(.type "Exception"),(.type "BaseException"),(.type "object")],192,"NoName",true,[],[],false,none,false⟩),#[(some (.ref 184)),none,(some (.str "NoName" 415)),(some (.str "NoName" 423)),(some (.builtin "ValueError.__new__")),(some (.bool true))]⟩) ::
 (nat_lit 204,⟨(.type "dict"),none,(.dict #[⟨(PyData.keyHash P "__module__"),(.str "__module__" 438),(.str "lotdraw.errors" 187)⟩,⟨(PyData.keyHash P "__firstlineno__"),(.str "__firstlineno__" 442),(.int 32 441)⟩,⟨(PyData.keyHash P "__static_attributes__"),(.str "__static_attributes__" 443),(.ref 203)⟩,⟨(PyData.keyHash P "__doc__"),(.str "__doc__" 444),.none⟩] 2),#[]⟩) ::
 (nat_lit 205,⟨(.type "type"),none,(.cls ⟨"NoDraw",[(.ref 24)],[(.ref 205),(.ref 24),(.type "ValueError"),(.type "Exception"),(.type "BaseException"),(.type "object")],204,"NoDraw",true,[],[],false,none,false⟩),#[(some (.ref 196)),none,(some (.str "NoDraw" 431)),(some (.str "NoDraw" 439)),(some (.builtin "ValueError.__new__")),(some (.bool true))]⟩) ::
 (nat_lit 213,⟨(.type "code"),none,(.fields #[(.str "goes_on" 449),(.str "goes_on" 450),(.str "/claim/cut.py" 451),(.int 35 0),(.int 2 0),(.int 0 0),(.int 0 0),(.int 3 0),(.ref 208),(.bool true),(.int 181 0),(.ref 209),.none,(.ref 210),(.ref 211),(.ref 212),(.int 455 0),(.int 35 0),(.str "/claim/cut.py" 456)]),#[]⟩) ::
 (nat_lit 214,⟨(.type "function"),none,.func (fnOf "goes_on" "goes_on" (defArgs (top 18)) (defBody (top 18)) (defScope (top 18)) .none .none .none (.str "lotdraw.plans" 447) none (.ref 213) .none),#[]⟩) ::
 (nat_lit 218,⟨(.type "code"),none,(.fields #[(.str "come_to" 458),(.str "come_to" 459),(.str "/claim/cut.py" 460),(.int 38 0),(.int 1 0),(.int 0 0),(.int 0 0),(.int 3 0),(.ref 215),(.bool true),(.int 181 0),(.ref 216),.none,.none,.none,(.ref 217),(.int 461 0),(.int 38 0),(.str "/claim/cut.py" 462)]),#[]⟩) ::
 (nat_lit 219,⟨(.type "function"),none,.func (fnOf "come_to" "come_to" (defArgs (top 19)) (defBody (top 19)) (defScope (top 19)) .none .none .none (.str "lotdraw.plans" 447) none (.ref 218) .none),#[]⟩) ::
 (nat_lit 223,⟨(.type "code"),none,(.fields #[(.str "ends" 464),(.str "ends" 465),(.str "/claim/cut.py" 466),(.int 43 0),(.int 1 0),(.int 0 0),(.int 0 0),(.int 3 0),(.ref 220),(.bool true),(.int 181 0),(.ref 221),.none,.none,.none,(.ref 222),(.int 467 0),(.int 43 0),(.str "/claim/cut.py" 468)]),#[]⟩) ::
 (nat_lit 224,⟨(.type "function"),none,.func (fnOf "ends" "ends" (defArgs (top 20)) (defBody (top 20)) (defScope (top 20)) .none .none .none (.str "lotdraw.plans" 447) none (.ref 223) .none),#[]⟩) ::
 (nat_lit 228,⟨(.type "code"),none,(.fields #[(.str "drawn_on" 470),(.str "drawn_on" 471),(.str "/claim/cut.py" 472),(.int 45 0),(.int 1 0),(.int 0 0),(.int 0 0),(.int 3 0),(.ref 225),(.bool true),(.int 181 0),(.ref 226),.none,.none,.none,(.ref 227),(.int 473 0),(.int 45 0),(.str "/claim/cut.py" 474)]),#[]⟩) ::
 (nat_lit 229,⟨(.type "function"),none,.func (fnOf "drawn_on" "drawn_on" (defArgs (top 21)) (defBody (top 21)) (defScope (top 21)) .none .none .none (.str "lotdraw.plans" 447) none (.ref 228) .none),#[]⟩) ::
 (nat_lit 233,⟨(.type "code"),none,(.fields #[(.str "led_to" 476),(.str "led_to" 477),(.str "/claim/cut.py" 478),(.int 50 0),(.int 1 0),(.int 0 0),(.int 0 0),(.int 3 0),(.ref 230),(.bool true),(.int 181 0),(.ref 231),.none,.none,.none,(.ref 232),(.int 479 0),(.int 50 0),(.str "/claim/cut.py" 480)]),#[]⟩) ::
 (nat_lit 234,⟨(.type "function"),none,.func (fnOf "led_to" "led_to" (defArgs (top 22)) (defBody (top 22)) (defScope (top 22)) .none .none .none (.str "lotdraw.plans" 447) none (.ref 233) .none),#[]⟩) ::
 (nat_lit 240,⟨(.type "code"),none,(.fields #[(.str "after" 482),(.str "after" 483),(.str "/claim/cut.py" 484),(.int 52 0),(.int 2 0),(.int 0 0),(.int 0 0),(.int 3 0),(.ref 235),(.bool true),(.int 181 0),(.ref 236),.none,(.ref 237),(.ref 238),(.ref 239),(.int 487 0),(.int 52 0),(.str "/claim/cut.py" 488)]),#[]⟩) ::
 (nat_lit 241,⟨(.type "function"),none,.func (fnOf "after" "after" (defArgs (top 23)) (defBody (top 23)) (defScope (top 23)) .none .none .none (.str "lotdraw.plans" 447) none (.ref 240) .none),#[]⟩) ::
 (nat_lit 247,⟨(.type "code"),none,(.fields #[(.str "ways_from" 492),(.str "ways_from" 493),(.str "/claim/cut.py" 494),(.int 57 0),(.int 2 0),(.int 0 0),(.int 0 0),(.int 3 0),(.ref 242),(.bool true),(.int 181 0),(.ref 243),.none,(.ref 244),(.ref 245),(.ref 246),(.int 501 0),(.int 57 0),(.str "/claim/cut.py" 502)]),#[]⟩) ::
 (nat_lit 248,⟨(.type "function"),none,.func (fnOf "ways_from" "ways_from" (defArgs (top 25)) (defBody (top 25)) (defScope (top 25)) .none .none .none (.str "lotdraw.ways" 490) none (.ref 247) .none),#[]⟩) ::
 (nat_lit 252,⟨(.type "code"),none,(.fields #[(.str "rows_of" 508),(.str "rows_of" 509),(.str "/claim/cut.py" 510),(.int 66 0),(.int 1 0),(.int 0 0),(.int 0 0),(.int 3 0),(.ref 249),(.bool true),(.int 181 0),(.ref 250),.none,.none,.none,(.ref 251),(.int 511 0),(.int 66 0),(.str "/claim/cut.py" 512)]),#[]⟩) ::
 (nat_lit 253,⟨(.type "function"),none,.func (fnOf "rows_of" "rows_of" (defArgs (top 28)) (defBody (top 28)) (defScope (top 28)) .none .none .none (.str "lotdraw.rows" 504) none (.ref 252) .none),#[]⟩) ::
 (nat_lit 259,⟨(.type "code"),none,(.fields #[(.str "rows_behind" 514),(.str "rows_behind" 515),(.str "/claim/cut.py" 516),(.int 71 0),(.int 3 0),(.int 0 0),(.int 0 0),(.int 3 0),(.ref 254),(.bool true),(.int 181 0),(.ref 255),.none,(.ref 256),(.ref 257),(.ref 258),(.int 521 0),(.int 71 0),(.str "/claim/cut.py" 522)]),#[]⟩) ::
 (nat_lit 260,⟨(.type "function"),none,.func (fnOf "rows_behind" "rows_behind" (defArgs (top 29)) (defBody (top 29)) (defScope (top 29)) .none .none .none (.str "lotdraw.rows" 504) none (.ref 259) .none),#[]⟩) ::
 (nat_lit 266,⟨(.type "code"),none,(.fields #[(.str "_law_cell" 526),(.str "_law_cell" 527),(.str "/claim/cut.py" 528),(.int 78 0),(.int 2 0),(.int 0 0),(.int 0 0),(.int 3 0),(.ref 261),(.bool true),(.int 181 0),(.ref 262),.none,(.ref 263),(.ref 264),(.ref 265),(.int 531 0),(.int 78 0),(.str "/claim/cut.py" 532)]),#[]⟩) ::
 (nat_lit 267,⟨(.type "function"),none,.func (fnOf "_law_cell" "_law_cell" (defArgs (top 31)) (defBody (top 31)) (defScope (top 31)) .none .none .none (.str "law_lotdraw_k23_rows_listed" 524) none (.ref 266) .none),#[]⟩) ::
 (nat_lit 273,⟨(.type "code"),none,(.fields #[(.str "_law_digits" 534),(.str "_law_digits" 535),(.str "/claim/cut.py" 536),(.int 82 0),(.int 3 0),(.int 0 0),(.int 0 0),(.int 3 0),(.ref 268),(.bool true),(.int 181 0),(.ref 269),.none,(.ref 270),(.ref 271),(.ref 272),(.int 542 0),(.int 82 0),(.str "/claim/cut.py" 543)]),#[]⟩) ::
 (nat_lit 274,⟨(.type "function"),none,.func (fnOf "_law_digits" "_law_digits" (defArgs (top 32)) (defBody (top 32)) (defScope (top 32)) .none .none .none (.str "law_lotdraw_k23_rows_listed" 524) none (.ref 273) .none),#[]⟩) ::
 (nat_lit 280,⟨(.type "code"),none,(.fields #[(.str "_law_mixes" 545),(.str "_law_mixes" 546),(.str "/claim/cut.py" 547),(.int 88 0),(.int 3 0),(.int 0 0),(.int 0 0),(.int 3 0),(.ref 275),(.bool true),(.int 181 0),(.ref 276),.none,(.ref 277),(.ref 278),(.ref 279),(.int 554 0),(.int 88 0),(.str "/claim/cut.py" 555)]),#[]⟩) ::
 (nat_lit 281,⟨(.type "function"),none,.func (fnOf "_law_mixes" "_law_mixes" (defArgs (top 33)) (defBody (top 33)) (defScope (top 33)) .none .none .none (.str "law_lotdraw_k23_rows_listed" 524) none (.ref 280) .none),#[]⟩) ::
 (nat_lit 285,⟨(.type "code"),none,(.fields #[(.str "_law_plan" 557),(.str "_law_plan" 558),(.str "/claim/cut.py" 559),(.int 94 0),(.int 2 0),(.int 0 0),(.int 0 0),(.int 3 0),(.ref 282),(.bool true),(.int 181 0),(.ref 283),.none,.none,.none,(.ref 284),(.int 560 0),(.int 94 0),(.str "/claim/cut.py" 561)]),#[]⟩) ::
 (nat_lit 286,⟨(.type "function"),none,.func (fnOf "_law_plan" "_law_plan" (defArgs (top 34)) (defBody (top 34)) (defScope (top 34)) .none .none .none (.str "law_lotdraw_k23_rows_listed" 524) none (.ref 285) .none),#[]⟩) ::
 (nat_lit 292,⟨(.type "code"),none,(.fields #[(.str "_law_most" 563),(.str "_law_most" 564),(.str "/claim/cut.py" 565),(.int 112 0),(.int 1 0),(.int 0 0),(.int 0 0),(.int 3 0),(.ref 287),(.bool true),(.int 181 0),(.ref 288),.none,(.ref 289),(.ref 290),(.ref 291),(.int 567 0),(.int 112 0),(.str "/claim/cut.py" 568)]),#[]⟩) ::
 (nat_lit 293,⟨(.type "function"),none,.func (fnOf "_law_most" "_law_most" (defArgs (top 35)) (defBody (top 35)) (defScope (top 35)) .none .none .none (.str "law_lotdraw_k23_rows_listed" 524) none (.ref 292) .none),#[]⟩) ::
 (nat_lit 299,⟨(.type "code"),none,(.fields #[(.str "_law_rows" 570),(.str "_law_rows" 571),(.str "/claim/cut.py" 572),(.int 116 0),(.int 1 0),(.int 0 0),(.int 0 0),(.int 3 0),(.ref 294),(.bool true),(.int 181 0),(.ref 295),.none,(.ref 296),(.ref 297),(.ref 298),(.int 578 0),(.int 116 0),(.str "/claim/cut.py" 579)]),#[]⟩) ::
 (nat_lit 300,⟨(.type "function"),none,.func (fnOf "_law_rows" "_law_rows" (defArgs (top 36)) (defBody (top 36)) (defScope (top 36)) .none .none .none (.str "law_lotdraw_k23_rows_listed" 524) none (.ref 299) .none),#[]⟩) ::
 (nat_lit 306,⟨(.type "code"),none,(.fields #[(.str "_law_ways" 581),(.str "_law_ways" 582),(.str "/claim/cut.py" 583),(.int 128 0),(.int 1 0),(.int 0 0),(.int 0 0),(.int 3 0),(.ref 301),(.bool true),(.int 181 0),(.ref 302),.none,(.ref 303),(.ref 304),(.ref 305),(.int 591 0),(.int 128 0),(.str "/claim/cut.py" 592)]),#[]⟩) ::
 (nat_lit 307,⟨(.type "function"),none,.func (fnOf "_law_ways" "_law_ways" (defArgs (top 37)) (defBody (top 37)) (defScope (top 37)) .none .none .none (.str "law_lotdraw_k23_rows_listed" 524) none (.ref 306) .none),#[]⟩) ::
 (nat_lit 311,⟨(.type "code"),none,(.fields #[(.str "_law_ends" 594),(.str "_law_ends" 595),(.str "/claim/cut.py" 596),(.int 136 0),(.int 1 0),(.int 0 0),(.int 0 0),(.int 3 0),(.ref 308),(.bool true),(.int 181 0),(.ref 309),.none,.none,.none,(.ref 310),(.int 597 0),(.int 136 0),(.str "/claim/cut.py" 598)]),#[]⟩) ::
 (nat_lit 312,⟨(.type "function"),none,.func (fnOf "_law_ends" "_law_ends" (defArgs (top 38)) (defBody (top 38)) (defScope (top 38)) .none .none .none (.str "law_lotdraw_k23_rows_listed" 524) none (.ref 311) .none),#[]⟩) ::
 (nat_lit 316,⟨(.type "code"),none,(.fields #[(.str "_law_word" 600),(.str "_law_word" 601),(.str "/claim/cut.py" 602),(.int 145 0),(.int 1 0),(.int 0 0),(.int 0 0),(.int 3 0),(.ref 313),(.bool true),(.int 181 0),(.ref 314),.none,.none,.none,(.ref 315),(.int 603 0),(.int 145 0),(.str "/claim/cut.py" 604)]),#[]⟩) ::
 (nat_lit 317,⟨(.type "function"),none,.func (fnOf "_law_word" "_law_word" (defArgs (top 39)) (defBody (top 39)) (defScope (top 39)) .none .none .none (.str "law_lotdraw_k23_rows_listed" 524) none (.ref 316) .none),#[]⟩) ::
 (nat_lit 323,⟨(.type "code"),none,(.fields #[(.str "_law_listed" 606),(.str "_law_listed" 607),(.str "/claim/cut.py" 608),(.int 156 0),(.int 1 0),(.int 0 0),(.int 0 0),(.int 3 0),(.ref 318),(.bool true),(.int 181 0),(.ref 319),.none,(.ref 320),(.ref 321),(.ref 322),(.int 612 0),(.int 156 0),(.str "/claim/cut.py" 613)]),#[]⟩) ::
 (nat_lit 324,⟨(.type "function"),none,.func (fnOf "_law_listed" "_law_listed" (defArgs (top 40)) (defBody (top 40)) (defScope (top 40)) .none .none .none (.str "law_lotdraw_k23_rows_listed" 524) none (.ref 323) .none),#[]⟩) ::
 (nat_lit 328,⟨(.type "code"),none,(.fields #[(.str "law" 615),(.str "law" 616),(.str "/claim/cut.py" 617),(.int 162 0),(.int 1 0),(.int 0 0),(.int 0 0),(.int 3 0),(.ref 325),(.bool true),(.int 181 0),(.ref 326),.none,.none,.none,(.ref 327),(.int 618 0),(.int 162 0),(.str "/claim/cut.py" 619)]),#[]⟩) ::
 (nat_lit 329,⟨(.type "function"),none,.func (fnOf "law" "law" (defArgs (top 41)) (defBody (top 41)) (defScope (top 41)) .none .none .none (.str "law_lotdraw_k23_rows_listed" 524) none (.ref 328) .none),#[]⟩) ::
 []
noncomputable def hpA:List Addr:=[2,3,23,24,25,36,37,48,49,60,61,72,73,84,85,96,97,108,109,120,121,132,133,144,145,156,157,168,169,180,181,192,193,204,205,213,214,218,219,223,224,228,229,233,234,240,241,247,248,252,253,259,260,266,267,273,274,280,281,285,286,292,293,299,300,306,307,311,312,316,317,323,324,328,329]
end MyLaw
namespace MyLaw
open PySem PySem.W L2
set_option maxHeartbeats 0
theorem zkC (P:Params):hpA=(hpK P).map (·.1):=by kernel_rfl
theorem zky (w:World) (os:OsState):(Hd.runT treeTable PySem.Challenge.pw_lotdraw_k23_rows_listed w 11 (some (.ref 6)) 8168 (Hd.bootS w os) (topStub PySem.Challenge.pw_lotdraw_k23_rows_listed)).map (fun s=>((staticsOk (importedModules PySem.Challenge.pw_lotdraw_k23_rows_listed.main.body) (boot_heap w.params) s.abs.heap && namesBound PySem.Challenge.pw_lotdraw_k23_rows_listed s.abs.heap && gensDone s.abs && laidKept (boot_heap w.params) s.abs.heap),hpA.map s.abs.heap.get?))=some (true,(hpK w.params).map fun p=>some p.2):=by kernel_rfl
noncomputable abbrev hpX:Shared->Bool:=fun s=>xlAt viewP [] s && recOk (RowW.records (OpenRow.toRowW (OpenLaw.row PySem.Challenge.rw_lotdraw_k23_rows_listed))) s
theorem zk7 (w:World) (os:OsState):(Hd.runT treeTable PySem.Challenge.pw_lotdraw_k23_rows_listed w 11 (some (.ref 6)) 8168 (Hd.bootS w os) (topStub PySem.Challenge.pw_lotdraw_k23_rows_listed)).map (fun s=>openSeen viewP [] (importedModules PySem.Challenge.pw_lotdraw_k23_rows_listed.main.body) hpX true s.abs)=some (openGood viewP []):=by kernel_rfl
end MyLaw
set_option maxHeartbeats 4000000
namespace L2
open PySem PySem.Spec PyProof.Rows
noncomputable abbrev Key:=Sum Int Str
noncomputable def keyIs:Key->Value->Bool
 | .inl k,v=>Value.isInt k v
 | .inr x,v=>Value.isStrOf x v
noncomputable def keyH (w:World):Key->Int
 | .inl k=>hashInt k
 | .inr x=>hashStr w x
theorem zN:∀ {k:Key} {v:Value},keyIs k v=true->(∃ i t,k=Sum.inl i /\ v=Value.int i t) \/ (∃ x t,k=Sum.inr x /\ v=Value.str x t)
 | .inl i,v,h=>by
   obtain ⟨t,e⟩:=Value.isInt_shape (k:=i) (v:=v) h
   exact .inl ⟨i,t,rfl,e⟩
 | .inr x,v,h=>by
   obtain ⟨t,e⟩:=Value.isStrOf_shape (x:=x) (v:=v) h
   exact .inr ⟨x,t,rfl,e⟩
theorem zih (i:Int) (t:Tok):keyIs (.inl i) (.int i t)=true:=by simp [keyIs,Value.isInt]
theorem zis (x:Str) (t:Tok):keyIs (.inr x) (.str x t)=true:=by simp [keyIs,Value.isStrOf]
theorem zlL (a b:Int):decide ((Sum.inl a:Key)=Sum.inl b)=(a == b):=by
 by_cases e:a=b
 ·subst e; simp
 ·have h:¬ (Sum.inl a:Key)=Sum.inl b:=fun q=>e (Sum.inl.inj q)
  rw [decide_eq_false h]
  exact (beq_eq_false_iff_ne.mpr e).symm
theorem zl4 (a b:Str):decide ((Sum.inr a:Key)=Sum.inr b)=decide (a=b):=by
 by_cases e:a=b
 ·subst e; simp
 ·have h:¬ (Sum.inr a:Key)=Sum.inr b:=fun q=>e (Sum.inr.inj q)
  rw [decide_eq_false h,decide_eq_false e]
theorem zmH (a:Int) (b:Str):decide ((Sum.inl a:Key)=Sum.inr b)=false:=decide_eq_false (fun q=>nomatch q)
theorem zl9 (a:Str) (b:Int):decide ((Sum.inr a:Key)=Sum.inl b)=false:=decide_eq_false (fun q=>nomatch q)
noncomputable def mixKind (prog:Program) (w:World):PySem.KeyKind prog w Key where
 is:=keyIs
 hash:=keyH w
 inj:=fun v a b ha hb=>by
  rcases zN ha with ⟨i,t,rfl,rfl⟩ | ⟨x,t,rfl,rfl⟩
  ·rcases zN hb with ⟨j,u,rfl,e⟩ | ⟨y,u,rfl,e⟩
   ·injection e with e1 _; rw [e1]
   ·exact nomatch e
  ·rcases zN hb with ⟨j,u,rfl,e⟩ | ⟨y,u,rfl,e⟩
   ·exact nomatch e
   ·injection e with e1 _; rw [e1]
 byValue:=fun k v h=>by
  rcases zN h with ⟨i,t,rfl,rfl⟩ | ⟨x,t,rfl,rfl⟩ <;> rfl
 pyHash:=fun hv h=>by
  rcases zN hv with ⟨i,t,rfl,rfl⟩ | ⟨x,t,rfl,rfl⟩
  ·exact wpAny_pyHash_int h
  ·exact wpAny_pyHash_str h
 eqBool:=fun hu hv h=>by
  rcases zN hu with ⟨i,t,rfl,rfl⟩ | ⟨x,t,rfl,rfl⟩
  ·rcases zN hv with ⟨j,u,rfl,rfl⟩ | ⟨y,u,rfl,rfl⟩
   ·rw [zlL] at h; exact wpAny_eqBool_int h
   ·rw [zmH] at h; exact SeqAt.EqAt.int_str i t y u _ _ _ _ h
  ·rcases zN hv with ⟨j,u,rfl,rfl⟩ | ⟨y,u,rfl,rfl⟩
   ·rw [zl9] at h; exact SeqAt.EqAt.str_int x t j u _ _ _ _ h
   ·rw [zl4] at h; exact wpAny_eqBool_str h
 «strs»:=fun k x t v h=>by
  rcases zN h with ⟨i,u,rfl,e⟩ | ⟨y,u,rfl,e⟩
  ·exact nomatch e
  ·injection e with e1 _
   subst e1
   cases v <;> rfl
theorem zfe (prog:Program) (w:World) (i:Int) (t:Tok):(mixKind prog w).is (.inl i) (.int i t)=true:=zih i t
theorem zfa (prog:Program) (w:World) (x:Str) (t:Tok):(mixKind prog w).is (.inr x) (.str x t)=true:=zis x t
end L2
namespace L2
open PySem PySem.Spec PyProof.Rows
inductive V where
 | non | bl (b:Bool) | int (i:Int) | str (x:Str) | byt (b:Array UInt8) | flt (b:UInt64) | ref (a:Addr) | ty (n:String)
 deriving DecidableEq
noncomputable def RelV:V->Value->Prop
 | .non,u=>u=Value.none
 | .bl b,u=>u=Value.bool b
 | .int i,u=>∃ t,u=Value.int i t
 | .str x,u=>∃ t,u=Value.str x t
 | .byt b,u=>∃ t,u=Value.bytes b t
 | .flt b,u=>∃ t,u=Value.float b t
 | .ref a,u=>u=Value.ref a
 | .ty n,u=>u=Value.type n
noncomputable abbrev Vals:List V->List Value->Prop:=Paired RelV
theorem Vals.length {xs:List V} {us:List Value} (r:Vals xs us):xs.length=us.length:=Paired.length r
theorem Vals.get:∀ {xs:List V} {us:List Value} {i:Nat} {x:V},Vals xs us->xs[i]?=some x->∃ u,us[i]?=some u /\ RelV x u
 | _,_,_,_,.nil,e=>by simp at e
 | _,_,0,_,.cons r _,e=>by simp at e; subst e; exact ⟨_,rfl,r⟩
 | _,_,i + 1,x,.cons _ t,e=>by
   obtain ⟨u,h1,h2⟩:=Vals.get (i:=i) (x:=x) t (by simpa using e)
   exact ⟨u,by simpa using h1,h2⟩
theorem Vals.append:∀ {xs ys:List V} {us ws:List Value},Vals xs us->Vals ys ws->Vals (xs ++ ys) (us ++ ws)
 | _,_,_,_,.nil,s=>s
 | _,_,_,_,.cons r t,s=>.cons r (Vals.append t s)
theorem Vals.take:∀ {xs:List V} {us:List Value} (n:Nat),Vals xs us->Vals (xs.take n) (us.take n)
 | _,_,0,_=>.nil
 | _,_,_ + 1,.nil=>.nil
 | _,_,n + 1,.cons r t=>.cons r (Vals.take n t)
theorem Vals.drop:∀ {xs:List V} {us:List Value} (n:Nat),Vals xs us->Vals (xs.drop n) (us.drop n)
 | _,_,0,r=>r
 | _,_,_ + 1,.nil=>.nil
 | _,_,n + 1,.cons _ t=>Vals.drop n t
noncomputable def RelO:Option V->Option Value->Prop
 | some v,some u=>RelV v u
 | none,none=>True
 | _,_=>False
noncomputable def KV {κ:Type}:List (κ×V)->List (κ×Value)->Prop:=Paired fun (p:κ×V) (q:κ×Value)=>p.1=q.1 /\ RelV p.2 q.2
noncomputable def kV:Key->V
 | .inl i=>.int i
 | .inr x=>.str x
inductive HO where
  | lst (xs:List V)
  | tup (xs:List V)
  | dK (kvs:List (Key×V)) | dT (kvs:List (List Key×V))
  | set (S:Int->Bool) (n:Nat)
  | ins (C dx:Addr) (fs:List (Str×V))
  | own (x:Addr)
  | xd (fs:List (Str×V))
  | met (f x:Addr)
  | rng (lo hi:Int)
  | frz (o:Obj) (u:HO)
  | tbl (ps:Array Value)
  | ext (φ:Heap->Prop)
noncomputable abbrev Hp:=Addr->Option HO
noncomputable def upd (H:Hp) (a:Addr) (o:HO):Hp:=fun b=>if b=a then some o else H b
theorem zG {H:Hp} {a:Addr} {o:HO}:upd H a o a=some o:=by unfold upd; rw [if_pos rfl]
theorem zn {H:Hp} {a b:Addr} {o:HO} (h:b≠a):upd H a o b=H b:=by unfold upd; rw [if_neg h]
theorem zv {H:Hp} {a b:Addr} {o:HO} (h:H a=some o) (h':H b=none):a≠b:=by
 intro e; subst e; rw [h] at h'; cases h'
noncomputable def TupT (H:Hp) (b:Addr) (xs:List V):Prop:=H b=some (.tup xs) \/ ∃ ob,H b=some (.frz ob (.tup xs))
theorem TupT.ne {H:Hp} {a b:Addr} {o:HO} {xs:List V} (t:TupT H b xs) (n:b≠a):TupT (upd H a o) b xs:=by
 rcases t with t | ⟨ob,t⟩
 ·exact .inl (by rw [zn n]; exact t)
 ·exact .inr ⟨ob,by rw [zn n]; exact t⟩
theorem TupT.new {H:Hp} {a b:Addr} {o:HO} {xs:List V} (t:TupT H b xs) (n:H a=none):TupT (upd H a o) b xs:=t.ne fun z=>by
 subst z
 rcases t with t | ⟨ob,t⟩ <;> rw [n] at t <;> cases t
theorem TupT.dT {H:Hp} {a b:Addr} {o:HO} {xs:List V} {kvs:List (List Key×V)} (t:TupT H b xs) (e:H a=some (.dT kvs)):TupT (upd H a o) b xs:=t.ne fun z=>by
 subst z
 rcases t with t | ⟨ob,t⟩ <;> rw [e] at t <;> cases t
section
variable (P:Program) (w:World)
noncomputable def ObjOk (H:Hp) (h:Heap) (a:Addr):HO->Prop
 | .lst xs=>xs.length<=sizeLine /\ ∃ (its:List Value) (n:Nat),Vals xs its /\ h.get? a=some { cls:=.type "list",data:=.seq its.toArray n }
 | .tup xs=>xs.length<=sizeLine /\ ∃ its:List Value,Vals xs its /\ IsTup h a its.toArray
 | .dK kvs=>kvs.length<=sizeLine /\ (a == sysModules)=false /\ ∃ vs,KV kvs vs /\ h.DictOf (mixKind P w) a vs
 | .dT kvs=>kvs.length<=sizeLine /\ (a == sysModules)=false /\ ∃ xs:List (List Key×Addr×Value),
   Paired (fun (p:List Key×V) (q:List Key×Addr×Value)=>p.1=q.1 /\ TupT H q.2.1 (p.1.map kV) /\ RelV p.2 q.2.2) kvs xs /\
   ∃ o es ep,h.get? a=some o /\ o.ExactDict /\ o.data=.dict es ep /\ es.toList=xs.map (entryOfKey (tupleKind (mixKind P w))) /\ (xs.map (·.1)).Nodup
 | .set S n=>h.SetOf (intKind P w) a S n
 | .ins C dx fs=>H dx=some (.own a) /\ fs.length<=1000 /\ dx≠a /\ h.get? a=some (PySem.W.instObj C dx) /\
   ∃ mA,h.Ns1 dx mA /\ (∀ f,RelO (fs.lookup f) (mA f)) /\ PySem.Within mA (fs.map (·.1))
 | .own _=>∃ o,h.get? a=some o
 | .xd fs=>∃ mA,h.Ns1 a mA /\ ∀ f,RelO (fs.lookup f) (mA f)
 | .rng lo hi=>∃ t u v,h.get? a=some { cls:=.type "range",data:=.fields #[.int lo t,.int hi u,.int 1 v] }
 | .frz o u=>h.get? a=some o /\ ObjOk H h a u
 | .tbl ps=>h.get? a=some { cls:=.none,data:=.fields ps }
 | .met f x=>h.get? a=some (PySem.W.methodObj (.ref f) (.ref x))
 | .ext φ=>φ h /\ (∃ o,h.get? a=some o) /\ ∀ h1 h2:Heap,φ h1->(∀ o,h1.get? a=some o->h2.get? a=some o)->φ h2
noncomputable def HOk (H:Hp) (h:Heap):Prop:=∀ a o,H a=some o->ObjOk P w H h a o
end
section
variable {P:Program} {w:World} {H H':Hp} {h h':Heap} {a:Addr} {o:HO}
theorem ObjOk.lt (x:ObjOk P w H h a o):a < h.objs.size:=by
 cases o with
 | lst xs=>obtain ⟨_,_,_,_,e⟩:=x; exact Heap.lt_size e
 | tup xs=>obtain ⟨_,_,_,p⟩:=x; exact p.lt
 | dK kvs=>obtain ⟨_,_,_,_,o,_,_,e,_⟩:=x; exact Heap.lt_size e
 | dT kvs=>obtain ⟨_,_,_,_,o,_,_,e,_⟩:=x; exact Heap.lt_size e
 | set S n=>obtain ⟨o,_,_,_,e,_⟩:=x; exact Heap.lt_size e
 | ins C dx fs=>obtain ⟨_,_,_,e,_⟩:=x; exact Heap.lt_size e
 | own y=>obtain ⟨_,e⟩:=x; exact Heap.lt_size e
 | xd fs=>obtain ⟨_,⟨_,_,_,e,_⟩,_⟩:=x; exact Heap.lt_size e
 | rng lo hi=>obtain ⟨_,_,_,e⟩:=x; exact Heap.lt_size e
 | frz ob u=>obtain ⟨e,_⟩:=x; exact Heap.lt_size e
 | tbl ps=>exact Heap.lt_size (show h.get? a=some _ from x)
 | met f y=>exact Heap.lt_size (show h.get? a=some _ from x)
 | ext φ=>obtain ⟨_,⟨_,e⟩,_⟩:=x; exact Heap.lt_size e
theorem Paired.mapP {α β:Type} {F G:α->β->Prop}:∀ {l₁:List α} {l₂:List β},Paired F l₁ l₂->(∀ a b,F a b->G a b)->Paired G l₁ l₂
 | _,_,.nil,_=>.nil
 | _,_,.cons r t,f=>.cons (f _ _ r) (Paired.mapP t f)
theorem ObjOk.stay (x:ObjOk P w H h a o) (k:∀ b u,(b=a \/ H b=some (.own a))->h.get? b=some u->h'.get? b=some u)
  (ho:∀ b,H b=some (.own a)->H' b=some (.own a)) (ht:∀ b xs,TupT H b xs->TupT H' b xs):ObjOk P w H' h' a o:=by
 induction o with
 | lst xs=>obtain ⟨z,its,n,r,e⟩:=x; exact ⟨z,its,n,r,k _ _ (.inl rfl) e⟩
 | tup xs=>obtain ⟨z,its,r,ob,e,c⟩:=x; exact ⟨z,its,r,ob,k _ _ (.inl rfl) e,c⟩
 | dK kvs=>obtain ⟨z,y,vs,r,ob,es,ep,e,c⟩:=x; exact ⟨z,y,vs,r,ob,es,ep,k _ _ (.inl rfl) e,c⟩
 | dT kvs=>
   obtain ⟨z,y,xs,r,ob,es,ep,e,c⟩:=x
   exact ⟨z,y,xs,Paired.mapP r fun p q z=>⟨z.1,ht _ _ z.2.1,z.2.2⟩,ob,es,ep,k _ _ (.inl rfl) e,c⟩
 | set S n=>obtain ⟨ob,es,ep,t,e,c⟩:=x; exact ⟨ob,es,ep,t,k _ _ (.inl rfl) e,c⟩
 | ins C dx fs=>
   obtain ⟨d,z,ne,e,mA,⟨od,es,ep,e2,c⟩,r⟩:=x
   exact ⟨ho _ d,z,ne,k _ _ (.inl rfl) e,mA,⟨od,es,ep,k _ _ (.inr d) e2,c⟩,r⟩
 | own y=>obtain ⟨ob,e⟩:=x; exact ⟨ob,k _ _ (.inl rfl) e⟩
 | xd fs=>obtain ⟨mA,⟨od,es,ep,e,c⟩,r⟩:=x; exact ⟨mA,⟨od,es,ep,k _ _ (.inl rfl) e,c⟩,r⟩
 | rng lo hi=>obtain ⟨t,u,v,e⟩:=x; exact ⟨t,u,v,k _ _ (.inl rfl) e⟩
 | frz ob u ih=>obtain ⟨e,q⟩:=x; exact ⟨k _ _ (.inl rfl) e,ih q⟩
 | tbl ps=>
   have e:h.get? a=some { cls:=.none,data:=.fields ps }:=x
   show h'.get? a=some { cls:=.none,data:=.fields ps }
   exact k a _ (.inl rfl) e
 | met f y=>
   have e:h.get? a=some (PySem.W.methodObj (.ref f) (.ref y)):=x
   show h'.get? a=some (PySem.W.methodObj (.ref f) (.ref y))
   exact k a _ (.inl rfl) e
 | ext φ=>obtain ⟨p,⟨o,e⟩,st⟩:=x; exact ⟨st _ _ p fun o q=>k _ _ (.inl rfl) q,⟨o,k _ _ (.inl rfl) e⟩,st⟩
theorem HOk.lt (x:HOk P w H h) (e:H a=some o):a < h.objs.size:=(x a o e).lt
theorem HOk.fresh (x:HOk P w H h) (e:h.objs.size<=a):H a=none:=by
 cases q:H a with
 | none=>rfl
 | some u=>exact absurd (Nat.lt_of_lt_of_le (x.lt q) e) (Nat.lt_irrefl _)
theorem HOk.kept (x:HOk P w H h) (k:∀ b u,h.get? b=some u->h'.get? b=some u):HOk P w H h':=fun a o e=>
 (x a o e).stay (fun b u _ q=>k b u q) (fun _ q=>q) fun _ _ q=>q
theorem HOk.laid (x:HOk P w H h) (k:∀ b u,h.get? b=some u->h'.get? b=some u) (hp:h.objs.size<=a) (new:ObjOk P w (upd H a o) h' a o):HOk P w (upd H a o) h':=fun b u e=>by
 have hn:=x.fresh hp
 by_cases hb:b=a
 ·subst hb; rw [zG] at e; cases e; exact new
 ·rw [zn hb] at e
  exact (x b u e).stay (fun c v _ q=>k c v q) (fun c q=>by rw [zn (zv q hn)]; exact q) fun c xs q=>q.new hn
end
noncomputable def Rd (H:Hp) (a:Addr) (u:HO):Prop:=H a=some u \/ ∃ o,H a=some (.frz o u)
theorem Rd.ok {P:Program} {w:World} {H:Hp} {h:Heap} {a:Addr} {u:HO} (r:Rd H a u) (x:HOk P w H h):ObjOk P w H h a u:=by
 rcases r with r | ⟨o,r⟩
 ·exact x a u r
 ·obtain ⟨_,q⟩:=x a _ r
  exact q
noncomputable def Mut:Option HO->Prop
 | some (.lst _)=>True
 | some (.dK _)=>True
 | some (.dT _)=>True
 | some (.set _ _)=>True
 | some (.ins _ _ _)=>True
 | some (.ext _)=>True
 | _=>False
section
variable {P:Program} {w:World} {H:Hp} {h h':Heap} {x e:Addr} {o':HO}
theorem HOk.write (ok:HOk P w H h) (mu:Mut (H x)) (he:e=x \/ H e=some (.own x)) (k:∀ b u,b≠e->h.get? b=some u->h'.get? b=some u) (heo:∃ u,h'.get? e=some u)
  (new:ObjOk P w (upd H x o') h' x o'):HOk P w (upd H x o') h':=fun b u q=>by
 have nown:∀ c y,H c=some (.own y)->c≠x:=fun c y r z=>by subst z; rw [r] at mu; exact mu
 have ntup:∀ c xs,H c=some (.tup xs)->c≠x:=fun c xs r z=>by subst z; rw [r] at mu; exact mu
 by_cases hb:b=x
 ·subst hb; rw [zG] at q; cases q; exact new
 ·rw [zn hb] at q
  by_cases hbe:b=e
  ·have q':H b=some (.own x):=by
    rcases he with z | z
    ·exact absurd (hbe.trans z) hb
    ·rw [hbe]; exact z
   rw [q] at q'; cases q'
   obtain ⟨v,hv⟩:=heo
   exact ⟨v,by rw [hbe]; exact hv⟩
  ·refine (ok b u q).stay (fun c v hc r=>k c v ?_ r) (fun c r=>by rw [zn (nown c b r)]; exact r) fun c xs r=>r.ne fun z=>by
    subst z
    rcases r with r | ⟨ob,r⟩ <;> rw [r] at mu <;> exact mu
   rcases hc with rfl | hc
   ·exact hbe
   ·rintro rfl
    rcases he with z | z
    ·exact nown c b hc z
    ·rw [hc] at z; cases z; exact hb rfl
end
structure Un (fs ex:List Addr) (H H':Hp) (h h':Heap):Prop where
 keep:∀ b o,h.get? b=some o->H b=none->b∉fs->b∉ex->h'.get? b=some o
 slot:∀ b o,h.get? b=some o->H b=none->b∈fs->b∉ex->∃ sl,h'.get? b=some { o with slots:=sl }
 free:∀ b o,h.get? b=some o->H b=none->b∉ex->H' b=none
 there:∀ b o,h.get? b=some o->b∉ex->∃ o',h'.get? b=some o'
 tups:∀ b xs,H b=some (.tup xs)->H' b=some (.tup xs)
 frzs:∀ b o u,H b=some (.frz o u)->H' b=some (.frz o u)
 tbls:∀ b ps,H b=some (.tbl ps)->∃ more,H' b=some (.tbl (ps ++ more))
section
variable {fs fs' ex ex':List Addr} {H H1 H2:Hp} {h h1 h2 h':Heap} {a x e:Addr} {o:HO}
theorem Un.any (u:Un fs ex H H1 h h1) {b:Addr} {ob:Obj} (q:h.get? b=some ob) (n:H b=none) (hx:b∉ex):∃ sl,h1.get? b=some { ob with slots:=sl }:=by
 by_cases hb:b∈fs
 ·exact u.slot b ob q n hb hx
 ·exact ⟨ob.slots,u.keep b ob q n hb hx⟩
theorem Un.kept (k:∀ b u,h.get? b=some u->h'.get? b=some u):Un fs ex H H h h':=
 ⟨fun b ob q _ _ _=>k b ob q,fun b ob q _ _ _=>⟨ob.slots,k b ob q⟩,fun _ _ _ n _=>n,fun b ob q _=>⟨ob,k b ob q⟩,fun _ _ q=>q,fun _ _ _ q=>q,fun _ ps q=>⟨#[],by rw [q]; simp⟩⟩
theorem Un.refl:Un fs ex H H h h:=Un.kept fun _ _ q=>q
theorem Un.laid (k:∀ b u,h.get? b=some u->h'.get? b=some u) (hp:h.objs.size<=a) (hn:H a=none):Un fs ex H (upd H a o) h h' where
 keep:=fun b u q _ _ _=>k b u q
 slot:=fun b u q _ _ _=>⟨u.slots,k b u q⟩
 free:=fun b u q n _=>by rw [zn (Nat.ne_of_lt (Nat.lt_of_lt_of_le (Heap.lt_size q) hp))]; exact n
 there:=fun b u q _=>⟨u,k b u q⟩
 tups:=fun b xs q=>by rw [zn (zv q hn)]; exact q
 frzs:=fun b u xs q=>by rw [zn (zv q hn)]; exact q
 tbls:=fun b ps q=>⟨#[],by rw [zn (zv q hn),q]; simp⟩
theorem Un.write (mu:Mut (H x)) (he:e=x \/ H e=some (.own x)) (k:∀ b u,b≠e->h.get? b=some u->h'.get? b=some u) (heo:∃ u,h'.get? e=some u):Un fs ex H (upd H x o) h h':=by
 have hx:∀ b,H b=none->b≠x:=fun b n z=>by subst z; rw [n] at mu; exact mu
 have hb:∀ b,H b=none->b≠e:=fun b n z=>by
  subst z
  rcases he with r | r
  ·exact hx b n r
  ·rw [n] at r; cases r
 have hm:∀ b u,H b=some u->¬ Mut (some u)->b≠x:=fun b u q nm z=>by subst z; rw [q] at mu; exact nm mu
 refine ⟨fun b u q n _ _=>k b u (hb b n) q,fun b u q n _ _=>⟨u.slots,k b u (hb b n) q⟩,fun b u q n _=>by rw [zn (hx b n)]; exact n,fun b u q _=>?_,
  fun b xs q=>by rw [zn (hm b _ q fun z=>z)]; exact q,fun b u xs q=>by rw [zn (hm b _ q fun z=>z)]; exact q,fun b ps q=>⟨#[],by rw [zn (hm b _ q fun z=>z),q]; simp⟩⟩
 by_cases hbe:b=e
 ·subst hbe; exact heo
 ·exact ⟨u,k b u hbe q⟩
end
noncomputable def trk (h:Heap) (H:Hp):List Addr:=(List.range h.objs.size).filter fun a=>(H a).isSome
noncomputable def hidT (h:Heap) (H:Hp):Heap:=PySem.W.hideAll h (trk h H)
theorem zhv (h:Heap) (H:Hp):(hidT h H).objs.size=h.objs.size:=PySem.W.hideAll_size _ _
theorem zji {h:Heap} {H:Hp} {b:Addr} {o:Obj} (e:h.get? b=some o) (n:H b=none):(hidT h H).get? b=some o:=
 PySem.W.hideAll_get _ e fun hm=>by
  have q:(H b).isSome=true:=(List.mem_filter.mp hm).2
  rw [n] at q; simp at q
theorem zkl {h:Heap} {H:Hp} {b:Addr} {o:Obj} (e:(hidT h H).get? b=some o):h.get? b=some o /\ H b=none:=by
 have e':h.get? b=some o:=PySem.W.of_hideAll (trk h H) e
 refine ⟨e',?_⟩
 cases q:H b with
 | none=>rfl
 | some x=>
   have hm:b∈trk h H:=List.mem_filter.mpr ⟨List.mem_range.mpr (Heap.lt_size e'),by simp [q]⟩
   have z:(hidT h H).get? b=none:=PySem.W.hideAll_none (trk h H) hm
   rw [z] at e; cases e
noncomputable def allNews (g h:Heap) (L:Addr):List (Addr×Obj):=(List.range h.objs.size).filterMap fun a=>if a=L \/ (g.get? a).isSome=true then none else (h.get? a).map fun o=>(a,o)
noncomputable def rest (g h:Heap) (L d:Addr):List (Addr×Obj):=(allNews g h L).filter fun p=>decide (p.1≠d)
end L2
namespace L2
open PySem PySem.Spec PyProof.Rows
structure Mod (K:PySem.W.Frag) (mg:Str->Option Value) (base:Heap):Prop where
 kin:K.In base
 glob:base.Ns mainGlobals mg
 blt:∃ mb,base.Ns builtinsNs mb /\ ∀ x:Str,x≠"__name__"->mb x=bootBuiltins x
 nolimit:base.NoLimit
structure Cx where
 prog:Program
 w:World
 K:PySem.W.Frag
 mg:Str->Option Value
 base:Heap
 A:Around
 N:List Str
 s₀:Shared
 H₀:Hp
 env:Env
 outer:List Env
 stack:List Env
 ex:List Addr
 fn:Str->Bool
 calm:Bool
 pn:List (Addr×Obj)
 xe:Value->Shared->Prop
noncomputable def frs (l:List Env):List Addr:=l.filterMap (·.frame)
noncomputable abbrev Cx.fs (X:Cx):List Addr:=frs X.outer
noncomputable def Vis (sc:Scope) (x:Str):Prop:=sc.names.lookup x=some .local \/ sc.names.lookup x=some .cell \/ sc.names.lookup x=some .free
noncomputable def Loc (sc:Scope) (x:Str):Prop:=sc.names.lookup x=some .local \/ sc.names.lookup x=some .cell
noncomputable def Look (env:Env) (h:Heap) (m:Str->Option Value) (x:Str) (u:Value):Prop:=
 (env.kindOf x=some .local /\ m x=some u) \/ ((env.kindOf x=some .cell \/ env.kindOf x=some .free) /\ ∃ c,env.cells.lookup x=some c /\ h.IsCell c (some u))
structure Cx.Ok (X:Cx):Prop where
 mod:Mod X.K X.mg X.base
 kind:X.env.scope.kind=.function
 glob:X.env.globals=mainGlobals
 blt:X.env.builtins=builtinsNs
 above:X.s₀.heap.objs.size<=X.env.locals
 inj:∀ x y c,X.env.cells.lookup x=some c->X.env.cells.lookup y=some c->x=y
 has:∀ x,(X.env.kindOf x=some .cell \/ X.env.kindOf x=some .free)->∃ c,X.env.cells.lookup x=some c
 cab:∀ x c,X.fn x=true->X.env.cells.lookup x=some c->X.s₀.heap.objs.size<=c
 hd:X.calm=true->X.A.handled=none
 frames:X.A.frames=some X.stack
 stk:X.stack=X.outer \/ (X.stack=X.env :: X.outer /\ X.env.frame=some X.env.locals)
 exf:∀ b∈X.ex,b≠X.env.locals /\ ∀ x c,X.env.cells.lookup x=some c->c≠b
 bs:∀ b o,X.base.get? b=some o->X.s₀.heap.get? b=some o /\ X.H₀ b=none
 bsz:X.base.objs.size<=X.s₀.heap.objs.size
 noex:∀ b o,X.base.get? b=some o->b∉X.ex
 exfs:∀ b∈X.ex,b∉X.fs
 funs:X.s₀.heap.FunFrames X.base X.outer
 frf:∀ b∈X.fs,X.H₀ b=none
structure Inv (X:Cx) (pins:List (Addr×Obj)) (σ:List (Option V)) (H:Hp) (s:Shared):Prop where
 ok:X.Ok
 os:s.os=X.s₀.os
 bare:AllBare s.gens
 base:Un X.fs X.ex X.H₀ H X.s₀.heap s.heap
 loc:∃ m,s.heap.Ns X.env.locals m /\ ∀ (i:Nat) (x:Str) (v:V),X.N[i]?=some x->σ[i]?=some (some v)->Vis X.env.scope x->∃ u,RelV v u /\ Look X.env s.heap m x u
 cell:∀ x c,X.env.cells.lookup x=some c->∃ v,s.heap.IsCell c v
 free:H X.env.locals=none
 freeC:∀ x c,X.env.cells.lookup x=some c->H c=none
 pin:∀ p∈X.pn ++ pins,s.heap.get? p.1=some p.2 /\ H p.1=none /\ p.1≠X.env.locals /\ p.1∉X.fs /\ ∀ v,p.2.data≠.cell v
 hok:HOk X.prog X.w H s.heap
 len:σ.length=X.N.length
section
variable {X:Cx} {pins:List (Addr×Obj)} {σ:List (Option V)} {H H':Hp} {s:Shared} {h':Heap}
theorem Cx.Ok.nofr (ok:X.Ok) {b:Addr} {o:Obj} (e:X.base.get? b=some o):b∉X.fs:=fun hb=>by
 have:=(ok.funs.mem hb).1
 rw [e] at this; cases this
theorem Inv.bs (I:Inv X pins σ H s):∀ b o,X.base.get? b=some o->s.heap.get? b=some o /\ H b=none:=fun b o e=>
 ⟨I.base.keep b o (I.ok.bs b o e).1 (I.ok.bs b o e).2 (I.ok.nofr e) (I.ok.noex b o e),I.base.free b o (I.ok.bs b o e).1 (I.ok.bs b o e).2 (I.ok.noex b o e)⟩
theorem Inv.bk (I:Inv X pins σ H s):∀ b o,X.base.get? b=some o->s.heap.get? b=some o:=fun b o e=>(I.bs b o e).1
theorem Inv.mod (I:Inv X pins σ H s):Mod X.K X.mg X.base:=I.ok.mod
theorem Inv.kIn (I:Inv X pins σ H s):X.K.In s.heap:=I.ok.mod.kin.keeps I.bk
theorem Inv.lt (I:Inv X pins σ H s):X.env.locals < s.heap.objs.size:=let ⟨_,hn,_⟩:=I.loc; hn.lt
theorem Inv.sz (I:Inv X pins σ H s):X.s₀.heap.objs.size<=s.heap.objs.size:=Nat.le_trans I.ok.above (Nat.le_of_lt I.lt)
theorem Inv.nofs (I:Inv X pins σ H s) {a:Addr} (h:s.heap.objs.size<=a):a∉X.fs:=fun hb=>by
 obtain ⟨_,o,ho,_⟩:=I.ok.funs.mem hb
 exact absurd (Nat.lt_of_lt_of_le (Heap.lt_size ho) (Nat.le_trans I.sz h)) (Nat.lt_irrefl _)
theorem Inv.cne (I:Inv X pins σ H s):∀ x c,X.env.cells.lookup x=some c->c≠X.env.locals:=fun x c e z=>by
 obtain ⟨v,o,ho,hd⟩:=I.cell x c e
 obtain ⟨m,⟨o',es,ep,ho',hd',_⟩,_⟩:=I.loc
 rw [z,ho'] at ho; cases ho; rw [hd'] at hd; cases hd
theorem Inv.funs (I:Inv X pins σ H s):s.heap.FunFrames X.base X.outer:=by
 have all:∀ (l:List Env),(∀ b∈frs l,b∈X.fs)->X.s₀.heap.FunFrames X.base l->s.heap.FunFrames X.base l:=by
  intro l
  induction l with
  | nil=>intro _ _; trivial
  | cons env r ih=>
    intro hs hl
    obtain ⟨hk,⟨L,o,hf,hn,ho,hd⟩,hr⟩:=hl
    have hL:L∈X.fs:=hs L (by unfold frs; rw [List.filterMap_cons,hf]; exact List.mem_cons_self)
    obtain ⟨sl,e⟩:=I.base.slot L o ho (I.ok.frf L hL) hL fun z=>I.ok.exfs L z hL
    exact ⟨hk,⟨L,_,hf,hn,e,hd⟩,ih (fun b hb=>hs b (by unfold frs; rw [List.filterMap_cons,hf]; exact List.mem_cons_of_mem _ hb)) hr⟩
 exact all X.outer (fun _ hb=>hb) I.ok.funs
theorem Inv.stack (I:Inv X pins σ H s):s.heap.FunFrames X.base X.stack:=by
 rcases I.ok.stk with e | ⟨e,hf⟩
 ·rw [e]; exact I.funs
 ·rw [e]
  obtain ⟨m,hn,_⟩:=I.loc
  refine .cons (by rw [I.ok.kind]; decide) hf hn ?_ I.funs
  exact Heap.get?_none_of_le (Nat.le_trans I.ok.bsz I.ok.above)
theorem Inv.stkSub (I:Inv X pins σ H s):∀ b∈frs X.stack,b∈X.env.locals :: X.fs:=fun b hb=>by
 rcases I.ok.stk with e | ⟨e,hf⟩
 ·rw [e] at hb; exact List.mem_cons_of_mem _ hb
 ·rw [e] at hb
  unfold frs at hb
  rw [List.filterMap_cons,hf] at hb
  exact hb
theorem Inv.stkFree (I:Inv X pins σ H s):∀ b∈frs X.stack,H b=none:=fun b hb=>by
 rcases List.mem_cons.mp (I.stkSub b hb) with e | hb
 ·rw [e]; exact I.free
 ·obtain ⟨_,o,ho,_⟩:=I.ok.funs.mem hb
  exact I.base.free b o ho (I.ok.frf b hb) fun z=>I.ok.exfs b z hb
theorem Inv.step {g':Array GenState} {t':Nat} {d':Drawn} {ch:List Addr} (I:Inv X pins σ H s)
  (hch:∀ b∈ch,(b∈X.ex \/ X.s₀.heap.objs.size<=b) /\ b≠X.env.locals /\ (∀ x c,X.env.cells.lookup x=some c->c≠b) /\ ∀ p∈X.pn ++ pins,p.1≠b)
  (keep:∀ b o,b≠X.env.locals->b∉X.fs->b∉ch->s.heap.get? b=some o->H b=none->h'.get? b=some o)
  (slot:∀ b o,b≠X.env.locals->b∈X.fs->b∉ch->s.heap.get? b=some o->H b=none->∃ sl,h'.get? b=some { o with slots:=sl }) (free:∀ b o,b∉ch->s.heap.get? b=some o->H b=none->H' b=none)
  (there:∀ b o,b∉ch->s.heap.get? b=some o->∃ o',h'.get? b=some o')
  (tups:∀ b xs,H b=some (.tup xs)->H' b=some (.tup xs)) (frzs:∀ b o u,H b=some (.frz o u)->H' b=some (.frz o u)) (tbls:∀ b ps,H b=some (.tbl ps)->∃ more,H' b=some (.tbl (ps ++ more)))
  (ns:∀ m,s.heap.Ns X.env.locals m->h'.Ns X.env.locals m) (hok:HOk X.prog X.w H' h') (hg:AllBare g'):
  Inv X pins σ H' { s with heap:=h',gens:=g',drawn:=d',toks:=t' }:=by
 have neL:∀ b o,X.s₀.heap.get? b=some o->b≠X.env.locals:=fun b o e=>Nat.ne_of_lt (Nat.lt_of_lt_of_le (Heap.lt_size e) I.ok.above)
 have neC:∀ b o,X.s₀.heap.get? b=some o->b∉X.ex->b∉ch:=fun b o e hx hb=>by
  rcases (hch b hb).1 with z | z
  ·exact hx z
  ·exact absurd (Nat.lt_of_lt_of_le (Heap.lt_size e) z) (Nat.lt_irrefl _)
 have cellK:∀ x c,X.env.cells.lookup x=some c->∀ v,s.heap.IsCell c v->h'.IsCell c v:=fun x c e v ⟨o,ho,hd⟩=>by
  have nch:c∉ch:=fun z=>(hch c z).2.2.1 x c e rfl
  by_cases hc:c∈X.fs
  ·obtain ⟨sl,q⟩:=slot c o (I.cne x c e) hc nch ho (I.freeC x c e)
   exact ⟨_,q,hd⟩
  ·exact ⟨o,keep c o (I.cne x c e) hc nch ho (I.freeC x c e),hd⟩
 refine ⟨I.ok,I.os,hg,⟨fun b o e n hb hx=>?_,fun b o e n hb hx=>?_,fun b o e n hx=>?_,fun b o e hx=>?_,fun b xs e=>tups b xs (I.base.tups b xs e),fun b o xs e=>frzs b o xs (I.base.frzs b o xs e),fun b ps e=>?_⟩,?_,fun x c e=>?_,?_,fun x c e=>?_,fun p hp=>?_,hok,I.len⟩
 ·exact keep b o (neL b o e) hb (neC b o e hx) (I.base.keep b o e n hb hx) (I.base.free b o e n hx)
 ·obtain ⟨sl,e1⟩:=I.base.slot b o e n hb hx
  obtain ⟨sl',e2⟩:=slot b _ (neL b o e) hb (neC b o e hx) e1 (I.base.free b o e n hx)
  exact ⟨sl',e2⟩
 ·obtain ⟨o',e1⟩:=I.base.there b o e hx
  exact free b o' (neC b o e hx) e1 (I.base.free b o e n hx)
 ·obtain ⟨o',e1⟩:=I.base.there b o e hx
  exact there b o' (neC b o e hx) e1
 ·obtain ⟨m1,e1⟩:=I.base.tbls b ps e
  obtain ⟨m2,e2⟩:=tbls b _ e1
  exact ⟨m1 ++ m2,by rw [e2,Array.append_assoc]⟩
 ·obtain ⟨m,hn,hl⟩:=I.loc
  refine ⟨m,ns m hn,fun i x v e1 e2 e3=>?_⟩
  obtain ⟨u,r,l⟩:=hl i x v e1 e2 e3
  refine ⟨u,r,?_⟩
  rcases l with l | ⟨k,c,e,z⟩
  ·exact .inl l
  ·exact .inr ⟨k,c,e,cellK x c e _ z⟩
 ·obtain ⟨v,z⟩:=I.cell x c e
  exact ⟨v,cellK x c e v z⟩
 ·obtain ⟨m,⟨o,_,_,ho,_⟩,_⟩:=I.loc
  exact free _ o (fun z=>(hch _ z).2.1 rfl) ho I.free
 ·obtain ⟨v,o,ho,hd⟩:=I.cell x c e
  exact free c o (fun z=>(hch c z).2.2.1 x c e rfl) ho (I.freeC x c e)
 ·obtain ⟨e,n,ne,nf,d⟩:=I.pin p hp
  have nch:p.1∉ch:=fun z=>(hch p.1 z).2.2.2 p hp rfl
  exact ⟨keep p.1 p.2 ne nf nch e n,free p.1 p.2 nch e n,ne,nf,d⟩
theorem Inv.un {t':Nat} (I:Inv X pins σ H s) (u:Un X.fs [] H H' s.heap h') (hok:HOk X.prog X.w H' h'):Inv X pins σ H' { s with heap:=h',toks:=t' }:=by
 obtain ⟨m,⟨o,es,ep,ho,r⟩,_⟩:=id I.loc
 obtain ⟨sl,hL⟩:=u.any ho I.free (by simp)
 exact I.step (g':=s.gens) (d':=s.drawn) (ch:=[]) (fun _ z=>nomatch z) (fun b o _ hb _ e n=>u.keep b o e n hb (by simp)) (fun b o _ hb _ e n=>u.slot b o e n hb (by simp)) (fun b o _ e n=>u.free b o e n (by simp)) (fun b o _ e=>u.there b o e (by simp)) u.tups u.frzs u.tbls (fun m' hm=>by
  obtain ⟨o',es',ep',ho',r'⟩:=hm
  rw [ho] at ho'; cases ho'
  exact ⟨_,es',ep',hL,r'⟩) hok I.bare
theorem Inv.call {g':Array GenState} {t':Nat} {d':Drawn} {ch:List Addr} (I:Inv X pins σ H s) (u:Un (frs X.stack) ch H H' s.heap h') (hok:HOk X.prog X.w H' h') (hg:AllBare g')
  (hch:∀ b∈ch,(b∈X.ex \/ X.s₀.heap.objs.size<=b) /\ b≠X.env.locals /\ (∀ x c,X.env.cells.lookup x=some c->c≠b) /\ ∀ p∈X.pn ++ pins,p.1≠b):
  Inv X pins σ H' { s with heap:=h',gens:=g',drawn:=d',toks:=t' }:=by
 obtain ⟨m,⟨o,es,ep,ho,r⟩,_⟩:=id I.loc
 obtain ⟨sl,hL⟩:=u.any ho I.free fun z=>(hch _ z).2.1 rfl
 exact I.step (ch:=ch) hch (fun b o hL hb hc e n=>u.keep b o e n (fun z=>(List.mem_cons.mp (I.stkSub b z)).elim hL hb) hc) (fun b o _ _ hc e n=>u.any e n hc) (fun b o hc e n=>u.free b o e n hc) (fun b o hc e=>u.there b o e hc) u.tups u.frzs u.tbls (fun m' hm=>by
  obtain ⟨o',es',ep',ho',r'⟩:=hm
  rw [ho] at ho'; cases ho'
  exact ⟨_,es',ep',hL,r'⟩) hok hg
theorem Inv.turned {t':Nat} {it:Addr} (I:Inv X pins σ H s) (k:∀ b o,b≠it->s.heap.get? b=some o->h'.get? b=some o) (hn:H it=none) (hL:it≠X.env.locals)
  (h1:it∈X.ex \/ X.s₀.heap.objs.size<=it) (h2:∀ x c,X.env.cells.lookup x=some c->c≠it) (h3:∀ p∈X.pn ++ pins,p.1≠it):Inv X pins σ H { s with heap:=h',toks:=t' }:=by
 have nit:∀ b u,H b=some u->b≠it:=fun b u e z=>by rw [z,hn] at e; cases e
 refine I.step (g':=s.gens) (d':=s.drawn) (ch:=[it]) (fun b hb=>?_) (fun b o _ _ hc e _=>k b o (fun z=>hc (by simp [z])) e) (fun b o _ _ hc e _=>⟨o.slots,k b o (fun z=>hc (by simp [z])) e⟩) (fun _ _ _ _ n=>n)
  (fun b o hc e=>⟨o,k b o (fun z=>hc (by simp [z])) e⟩) (fun _ _ e=>e) (fun _ _ _ e=>e) (fun b ps e=>⟨#[],by rw [e]; simp⟩) (fun m hm=>?_) (fun b u e=>?_) I.bare
 ·have e:b=it:=by simpa using hb
  subst e
  exact ⟨h1,hL,h2,h3⟩
 ·obtain ⟨o,es,ep,ho,r⟩:=hm
  exact ⟨o,es,ep,k _ o (Ne.symm hL) ho,r⟩
 ·refine (I.hok b u e).stay (fun c v hc q=>k c v ?_ q) (fun _ q=>q) fun _ _ q=>q
  rcases hc with z | z
  ·rw [z]; exact nit b u e
  ·exact nit c _ z
theorem Inv.tok (I:Inv X pins σ H s) (t:Nat):Inv X pins σ H { s with toks:=t }:=I.un (h':=s.heap) (t':=t) Un.refl I.hok
theorem Inv.kept {t':Nat} (I:Inv X pins σ H s) (k:∀ b u,s.heap.get? b=some u->h'.get? b=some u):Inv X pins σ H { s with heap:=h',toks:=t' }:=I.un (Un.kept k) (I.hok.kept k)
theorem Inv.laid {a:Addr} {o:HO} {t':Nat} (I:Inv X pins σ H s) (k:∀ b u,s.heap.get? b=some u->h'.get? b=some u) (hp:s.heap.objs.size<=a) (new:ObjOk X.prog X.w (upd H a o) h' a o):
  Inv X pins σ (upd H a o) { s with heap:=h',toks:=t' }:=I.un (Un.laid k hp (I.hok.fresh hp)) (I.hok.laid k hp new)
theorem Inv.write {x e:Addr} {o:HO} {t':Nat} (I:Inv X pins σ H s) (mu:Mut (H x)) (he:e=x \/ H e=some (.own x)) (k:∀ b u,b≠e->s.heap.get? b=some u->h'.get? b=some u) (heo:∃ u,h'.get? e=some u)
  (new:ObjOk X.prog X.w (upd H x o) h' x o):Inv X pins σ (upd H x o) { s with heap:=h',toks:=t' }:=I.un (Un.write mu he k heo) (I.hok.write mu he k heo new)
theorem Inv.pins_of {pins':List (Addr×Obj)} (I:Inv X pins σ H s) (h:∀ p∈pins',s.heap.get? p.1=some p.2 /\ H p.1=none /\ p.1≠X.env.locals /\ p.1∉X.fs /\ ∀ v,p.2.data≠.cell v):Inv X pins' σ H s:=
 ⟨I.ok,I.os,I.bare,I.base,I.loc,I.cell,I.free,I.freeC,fun p hp=>(List.mem_append.mp hp).elim (fun z=>I.pin p (List.mem_append_left _ z)) (h p),I.hok,I.len⟩
theorem zfZ {N:List Str} (hN:N.Nodup) {i j:Nat} {x:Str} (a:N[i]?=some x) (b:N[j]?=some x):i=j:=by
 obtain ⟨h1,e1⟩:=List.getElem?_eq_some_iff.mp a
 obtain ⟨h2,e2⟩:=List.getElem?_eq_some_iff.mp b
 exact (List.getElem_inj hN).mp (e1.trans e2.symm)
theorem zeu {M:Model} {A:Around} {E:Value->Shared->Prop} {i:Nat} {x:Str} {v:V} {u:Value} {Q:Unit->Shared->Prop} (I:Inv X pins σ H s) (hN:X.N.Nodup) (hi:X.N[i]?=some x) (hx:Loc X.env.scope x) (r:RelV v u)
  (h:∀ s',Inv X pins (σ.set i (some v)) H s'->(∃ a,Heap.SameBut a s.heap s'.heap /\ (a=X.env.locals \/ X.env.cells.lookup x=some a))->Q () s') (hf:X.fn x=true \/ X.env.scope.names.lookup x=some .local):wpAny M A (storeName X.env x u) Q E s:=by
 obtain ⟨m,hn,hl⟩:=id I.loc
 have hcls:(X.env.scope.kind == .class || (X.env.scope.kind == .module && X.env.locals != X.env.globals))=false:=by rw [I.ok.kind]; rfl
 have hiσ:i < σ.length:=by rw [I.len]; exact (List.getElem?_eq_some_iff.mp hi).1
 have cne:=I.cne
 have tracked:∀ {a:Addr} {h':Heap},(∃ o,s.heap.get? a=some o /\ H a=none)->Heap.SameBut a s.heap h'->HOk X.prog X.w H h':=fun {a h'} ha hs b ob e=>by
  obtain ⟨_,_,hfree⟩:=ha
  refine (I.hok b ob e).stay (fun c w' hc q=>(hs.2 c ?_).trans q) (fun _ q=>q) fun _ _ q=>q
  rintro rfl
  rcases hc with rfl | hc
  ·rw [hfree] at e; cases e
  ·rw [hfree] at hc; cases hc
 rcases hx with hk | hk
 ·refine wpAny_storeName_local hk hn (fun h' hn' hs=>?_) hcls
  obtain ⟨oL,_,_,hoL,_⟩:=id hn
  refine h _ ⟨I.ok,I.os,I.bare,⟨fun b o e n hb hx=>?_,fun b o e n hb hx=>?_,I.base.free,fun b o e hx=>?_,I.base.tups,I.base.frzs,I.base.tbls⟩,⟨_,hn',fun j y v' e1 e2 e3=>?_⟩,fun y c e=>?_,I.free,I.freeC,fun p hp=>?_,tracked ⟨oL,hoL,I.free⟩ hs,by simpa using I.len⟩ ⟨_,hs,.inl rfl⟩
  ·exact (hs.2 b (Nat.ne_of_lt (Nat.lt_of_lt_of_le (Heap.lt_size e) I.ok.above))).trans (I.base.keep b o e n hb hx)
  ·obtain ⟨sl,e1⟩:=I.base.slot b o e n hb hx
   exact ⟨sl,(hs.2 b (Nat.ne_of_lt (Nat.lt_of_lt_of_le (Heap.lt_size e) I.ok.above))).trans e1⟩
  ·obtain ⟨o',e1⟩:=I.base.there b o e hx
   exact ⟨o',(hs.2 b (Nat.ne_of_lt (Nat.lt_of_lt_of_le (Heap.lt_size e) I.ok.above))).trans e1⟩
  ·by_cases hj:j=i
   ·subst hj
    rw [hi] at e1; cases e1
    rw [List.getElem?_set_self hiσ] at e2
    cases e2
    exact ⟨u,r,.inl ⟨hk,by simp⟩⟩
   ·rw [List.getElem?_set_ne (Ne.symm hj)] at e2
    obtain ⟨u',r',q⟩:=hl j y v' e1 e2 e3
    refine ⟨u',r',?_⟩
    rcases q with ⟨k,e⟩ | ⟨k,c,e,z⟩
    ·refine .inl ⟨k,?_⟩
     have:y≠x:=fun e=>hj (zfZ hN e1 (e ▸ hi))
     simp [this,e]
    ·exact .inr ⟨k,c,e,z.sameBut hs (cne y c e)⟩
  ·obtain ⟨w',z⟩:=I.cell y c e
   exact ⟨w',z.sameBut hs (cne y c e)⟩
  ·obtain ⟨e,n,ne,nf,d⟩:=I.pin p hp
   exact ⟨(hs.2 p.1 ne).trans e,n,ne,nf,d⟩
 ·have hfn:X.fn x=true:=by
   rcases hf with z | z
   ·exact z
   ·rw [z] at hk; cases hk
  obtain ⟨c,hc⟩:=I.ok.has x (.inl hk)
  obtain ⟨w',z⟩:=I.cell x c hc
  refine wpAny_storeName_cell I.ok.kind hk hc z (fun h' hc' hs=>?_)
  obtain ⟨oc,hoc,hocd⟩:=id z
  refine h { s with heap:=h' } ⟨I.ok,I.os,I.bare,⟨fun b o e n hb hx=>?_,fun b o e n hb hx=>?_,I.base.free,fun b o e hx=>?_,I.base.tups,I.base.frzs,I.base.tbls⟩,⟨m,hn.sameBut hs (Ne.symm (cne x c hc)),fun j y v' e1 e2 e3=>?_⟩,fun y c' e=>?_,I.free,I.freeC,fun p hp=>?_,tracked ⟨oc,hoc,I.freeC x c hc⟩ hs,by simpa using I.len⟩ ⟨c,hs,.inr hc⟩
  ·exact (hs.2 b (Nat.ne_of_lt (Nat.lt_of_lt_of_le (Heap.lt_size e) (I.ok.cab x c hfn hc)))).trans (I.base.keep b o e n hb hx)
  ·obtain ⟨sl,e1⟩:=I.base.slot b o e n hb hx
   exact ⟨sl,(hs.2 b (Nat.ne_of_lt (Nat.lt_of_lt_of_le (Heap.lt_size e) (I.ok.cab x c hfn hc)))).trans e1⟩
  ·obtain ⟨o',e1⟩:=I.base.there b o e hx
   exact ⟨o',(hs.2 b (Nat.ne_of_lt (Nat.lt_of_lt_of_le (Heap.lt_size e) (I.ok.cab x c hfn hc)))).trans e1⟩
  ·by_cases hj:j=i
   ·subst hj
    rw [hi] at e1; cases e1
    rw [List.getElem?_set_self hiσ] at e2
    cases e2
    exact ⟨u,r,.inr ⟨.inl hk,c,hc,hc'⟩⟩
   ·rw [List.getElem?_set_ne (Ne.symm hj)] at e2
    obtain ⟨u',r',q⟩:=hl j y v' e1 e2 e3
    refine ⟨u',r',?_⟩
    rcases q with q | ⟨k,c',e,z'⟩
    ·exact .inl q
    ·refine .inr ⟨k,c',e,z'.sameBut hs ?_⟩
     rintro rfl
     exact hj (zfZ hN e1 (I.ok.inj _ _ _ e hc ▸ hi))
  ·by_cases hcc:c'=c
   ·subst hcc; exact ⟨_,hc'⟩
   ·obtain ⟨w2,z2⟩:=I.cell y c' e
    exact ⟨w2,z2.sameBut hs hcc⟩
  ·obtain ⟨e,n,ne,nf,d⟩:=I.pin p hp
   refine ⟨(hs.2 p.1 ?_).trans e,n,ne,nf,d⟩
   intro q
   rw [q,hoc] at e
   have q':oc=p.2:=Option.some.inj e
   exact d w' (by rw [<- q']; exact hocd)
theorem zdA {M:Model} {A:Around} {E:Value->Shared->Prop} {i:Nat} {x:Str} {v:V} {u:Value} {Q:Unit->Shared->Prop} (I:Inv X pins σ H s) (hN:X.N.Nodup) (hi:X.N[i]?=some x) (hx:Loc X.env.scope x) (r:RelV v u)
  (h:∀ s',Inv X pins (σ.set i (some v)) H s'->Q () s') (hf:X.fn x=true \/ X.env.scope.names.lookup x=some .local):wpAny M A (storeName X.env x u) Q E s:=
 zeu I hN hi hx r (fun s' I' _=>h s' I') hf
theorem Inv.call' {s':Shared} {ch:List Addr} (I:Inv X pins σ H s) (ho:s'.os=s.os) (u:Un (frs X.stack) ch H H' s.heap s'.heap) (hok:HOk X.prog X.w H' s'.heap) (hg:AllBare s'.gens)
  (hch:∀ b∈ch,(b∈X.ex \/ X.s₀.heap.objs.size<=b) /\ b≠X.env.locals /\ (∀ x c,X.env.cells.lookup x=some c->c≠b) /\ ∀ p∈X.pn ++ pins,p.1≠b):Inv X pins σ H' s':=by
 obtain ⟨h',g',d',t',o'⟩:=s'
 have e:o'=s.os:=ho
 subst e
 exact I.call (g':=g') (t':=t') (d':=d') u hok hg hch
end
noncomputable abbrev XK:=Value->Option Addr->Hp->Prop
noncomputable abbrev St:=List (Option V)
noncomputable abbrev VK:=V->Hp->Prop
noncomputable abbrev TE:=St->Hp->VK->Prop
noncomputable abbrev TT:=St->Hp->(Bool->Hp->Prop)->Prop
noncomputable abbrev TA:=St->Hp->(List V->Hp->Prop)->Prop
structure Ends where
 nx:St->Hp->Prop
 rt:VK
 bk:St->Hp->Prop:=fun _ _=>False
 ct:St->Hp->Prop:=fun _ _=>False
noncomputable abbrev TS:=Ends->St->Hp->Prop
noncomputable def EP (X:Cx) (pins:List (Addr×Obj)) (σ:St) (Q:VK) (u:Value) (s':Shared):Prop:=∃ v H',Inv X pins σ H' s' /\ RelV v u /\ Q v H'
noncomputable def TP (X:Cx) (pins:List (Addr×Obj)) (σ:St) (Q:Bool->Hp->Prop) (b:Bool) (s':Shared):Prop:=∃ H',Inv X pins σ H' s' /\ Q b H'
noncomputable def AP (X:Cx) (pins:List (Addr×Obj)) (σ:St) (Q:List V->Hp->Prop) (us:List Value) (s':Shared):Prop:=∃ vs H',Inv X pins σ H' s' /\ Vals vs us /\ Q vs H'
noncomputable def SP (X:Cx) (pins:List (Addr×Obj)) (D:Ends) (f:Flow) (s':Shared):Prop:=
 match f with
 | .next=>∃ σ' H',Inv X pins σ' H' s' /\ D.nx σ' H'
 | .brk=>∃ σ' H',Inv X pins σ' H' s' /\ D.bk σ' H'
 | .cont=>∃ σ' H',Inv X pins σ' H' s' /\ D.ct σ' H'
 | .ret u=>∃ v σ' H',Inv X pins σ' H' s' /\ RelV v u /\ D.rt v H'
noncomputable def PE (X:Cx) (e:Expr) (t:TE):Prop:=
 ∀ (pins:List (Addr×Obj)) (s:Shared) (σ:St) (H:Hp) (Q:VK),Inv X pins σ H s->t σ H Q->wpAny (model X.prog X.w) X.A (eval e X.env) (EP X pins σ Q) X.xe s
noncomputable def PT (X:Cx) (e:Expr) (t:TT):Prop:=
 ∀ (pins:List (Addr×Obj)) (s:Shared) (σ:St) (H:Hp) (Q:Bool->Hp->Prop),Inv X pins σ H s->t σ H Q->wpAny (model X.prog X.w) X.A (isTrue e X.env (eval e X.env)) (TP X pins σ Q) X.xe s
noncomputable def PW (X:Cx) (e:Expr) (t:TT):Prop:=
 ∀ (whole:Sem Value) (pins:List (Addr×Obj)) (s:Shared) (σ:St) (H:Hp) (Q:Bool->Hp->Prop),Inv X pins σ H s->t σ H Q->wpAny (model X.prog X.w) X.A (isTrue e X.env whole) (TP X pins σ Q) X.xe s
theorem PW.pt {X:Cx} {e:Expr} {t:TT} (h:PW X e t):PT X e t:=h _
noncomputable def PA (X:Cx) (es:List Expr) (t:TA):Prop:=
 ∀ (pos:Pos) (pins:List (Addr×Obj)) (s:Shared) (σ:St) (H:Hp) (Q:List V->Hp->Prop),Inv X pins σ H s->t σ H Q->wpAny (model X.prog X.w) X.A (spliced (backTo pos (starEach es X.env))) (AP X pins σ Q) X.xe s
noncomputable def PS (X:Cx) (st:Stmt) (t:TS):Prop:=
 ∀ (pins:List (Addr×Obj)) (s:Shared) (σ:St) (H:Hp) (D:Ends),Inv X pins σ H s->t D σ H->wpAny (model X.prog X.w) X.A (exec st X.env) (SP X pins D) X.xe s
noncomputable def PSs (X:Cx) (st:List Stmt) (t:TS):Prop:=
 ∀ (pins:List (Addr×Obj)) (s:Shared) (σ:St) (H:Hp) (D:Ends),Inv X pins σ H s->t D σ H->wpAny (model X.prog X.w) X.A (execs st X.env) (SP X pins D) X.xe s
theorem thn {α:Type} {t:Sem α} {Q Q':α->Shared->Prop} {M:Model} {A:Around} {E:Value->Shared->Prop} {s:Shared} (h:wpAny M A t Q E s) (hQ:∀ a s,Q a s->Q' a s):wpAny M A t Q' E s:=wpAny_mono h hQ fun _ _ x=>x
end L2
namespace L2
open PySem PySem.Spec PyProof.Rows
section
variable {X:Cx}
noncomputable def tVar (i:Nat):TE:=fun σ H Q=>∃ v,σ[i]?=some (some v) /\ Q v H
noncomputable def tC (v:V):TE:=fun _ H Q=>Q v H
theorem zlW {i:Nat} {x:Str} {pos:Pos} (hN:X.N[i]?=some x) (hv:Vis X.env.scope x) (hd:(x == ("__debug__":Str))=false:=by decide) (hcd:(x == ("__classdict__":Str))=false:=by decide):PE X (.Name x pos) (tVar i):=by
 intro pins s σ H Q I h
 obtain ⟨v,e,h⟩:=h
 obtain ⟨m,hn,hl⟩:=I.loc
 obtain ⟨u,r,l⟩:=hl i x v hN e hv
 have fin:EP X pins σ Q u s:=⟨v,H,I,r,h⟩
 rcases l with ⟨hk,hm⟩ | ⟨hk,c,hc,hcell⟩
 ·exact wpAny_Name (wpAny_loadName_local I.ok.kind hk hn hm fin) hd
 ·rcases hk with hk | hk
  ·exact wpAny_Name (wpAny_loadName_cell I.ok.kind hk hc hcell fin) hd
  ·exact wpAny_Name (wpAny_loadName_free I.ok.kind hk hc hcell fin hcd) hd
theorem ze {i j pos}:PE X (.Constant (.int i) j pos) (tC (.int i)):=fun _ _ _ H _ I h=>wpAny_Constant_int ⟨.int i,H,I.tok _,⟨_,rfl⟩,h⟩
theorem zmB {b j pos}:PE X (.Constant (.bool b) j pos) (tC (.bl b)):=fun _ _ _ H _ I h=>Constant_bool ⟨.bl b,H,I,rfl,h⟩
theorem zaI {x j pos}:PE X (.Constant (.str x) j pos) (tC (.str x)):=fun _ _ _ H _ I h=>Calls.Constant_str ⟨.str x,H,I.tok _,⟨_,rfl⟩,h⟩
noncomputable def Gl (X:Cx) (x:Str):Prop:=X.env.kindOf x=some .globalImplicit
theorem zcG {E:Value->Shared->Prop} {pins:List (Addr×Obj)} {s:Shared} {σ:St} {H:Hp} {x:Str} {u:Value} {pos:Pos} {Q:Value->Shared->Prop} (I:Inv X pins σ H s) (hg:Gl X x) (hm:X.mg x=some u) (h:Q u s)
  (hd:(x == ("__debug__":Str))=false:=by decide):wpAny (model X.prog X.w) X.A (eval (.Name x pos) X.env) Q E s:=
 Calls.Name_function_global I.ok.kind hg (Calls.loadGlobal_global (by rw [I.ok.glob]; exact I.mod.glob.keeps I.bk) hm h) hd
theorem zbM {E:Value->Shared->Prop} {pins:List (Addr×Obj)} {s:Shared} {σ:St} {H:Hp} {x:Str} {u:Value} {pos:Pos} {Q:Value->Shared->Prop} (I:Inv X pins σ H s) (hg:Gl X x) (hm:X.mg x=none) (hv:bootBuiltins x=some u) (h:Q u s)
  (hn:x≠"__name__":=by decide) (hd:(x == ("__debug__":Str))=false:=by decide):wpAny (model X.prog X.w) X.A (eval (.Name x pos) X.env) Q E s:=by
 obtain ⟨mb,h1,h2⟩:=I.mod.blt
 exact Calls.Name_function_global I.ok.kind hg (Calls.loadGlobal_builtin (by rw [I.ok.glob]; exact I.mod.glob.keeps I.bk) hm (by rw [I.ok.blt]; exact h1.keeps I.bk) ((h2 x hn).trans hv) h) hd
theorem zkP {x:Str} {v:V} {u:Value} {pos:Pos} (hg:Gl X x) (hm:X.mg x=some u) (r:RelV v u) (hd:(x == ("__debug__":Str))=false:=by decide):PE X (.Name x pos) (tC v):=
 fun _ _ _ H _ I h=>zcG I hg hm ⟨v,H,I,r,h⟩ hd
theorem zff {x:Str} {v:V} {u:Value} {pos:Pos} (hg:Gl X x) (hm:X.mg x=none) (hv:bootBuiltins x=some u) (r:RelV v u) (hn:x≠"__name__":=by decide) (hd:(x == ("__debug__":Str))=false:=by decide):PE X (.Name x pos) (tC v):=
 fun _ _ _ H _ I h=>zbM I hg hm hv ⟨v,H,I,r,h⟩ hn hd
variable {a b:Expr} {ta tb:TE} {pos:Pos}
variable {tA tB':TT} {rest:List Expr}
noncomputable def tAnd (t u:TT):TT:=fun σ H Q=>t σ H fun c H1=>if c=true then u σ H1 Q else Q false H1
noncomputable def tOr (t u:TT):TT:=fun σ H Q=>t σ H fun c H1=>if c=true then Q true H1 else u σ H1 Q
noncomputable def tNot (t:TT):TT:=fun σ H Q=>t σ H fun c H1=>Q (!c) H1
theorem zhs (ha:PT X a tA):PW X (.BoolOp .And [a] pos) tA:=by
 intro wh pins s σ H Q I h
 refine isTrue_and (thn (ha pins s σ H Q I h) fun c s1 e=>?_)
 cases c with
 | true=>exact isTrue_and_nil e
 | false=>exact e
theorem zhT (ha:PT X a tA):PW X (.BoolOp .Or [a] pos) tA:=by
 intro wh pins s σ H Q I h
 refine isTrue_or (thn (ha pins s σ H Q I h) fun c s1 e=>?_)
 cases c with
 | false=>exact isTrue_or_nil e
 | true=>exact e
theorem zmp (ha:PT X a tA) (hb:PW X (.BoolOp .And (b :: rest) pos) tB'):PW X (.BoolOp .And (a :: b :: rest) pos) (tAnd tA tB'):=by
 intro wh pins s σ H Q I h
 refine isTrue_and (thn (ha pins s σ H _ I h) fun c s1 ⟨H1,I1,q1⟩=>?_)
 cases c with
 | true=>exact hb wh pins s1 σ H1 Q I1 q1
 | false=>exact ⟨H1,I1,q1⟩
theorem zmK (ha:PT X a tA) (hb:PW X (.BoolOp .Or (b :: rest) pos) tB'):PW X (.BoolOp .Or (a :: b :: rest) pos) (tOr tA tB'):=by
 intro wh pins s σ H Q I h
 refine isTrue_or (thn (ha pins s σ H _ I h) fun c s1 ⟨H1,I1,q1⟩=>?_)
 cases c with
 | true=>exact ⟨H1,I1,q1⟩
 | false=>exact hb wh pins s1 σ H1 Q I1 q1
theorem zlQ (ha:PT X a tA):PT X (.UnaryOp .Not a pos) (tNot tA):=by
 intro pins s σ H Q I h
 exact isTrue_not (ha pins s σ H (fun c H1=>Q (!c) H1) I h)
noncomputable def tAndV (ta tb:TE):TE:=fun σ H Q=>ta σ H fun x H1=>∃ c,x=.bl c /\ if c=true then tb σ H1 Q else Q (.bl false) H1
theorem zlK {op} {t:TE} (h:PE X a t):PE X (.BoolOp op [a] pos) t:=fun pins s σ H Q I hw=>BoolOp_one (h pins s σ H Q I hw)
theorem zmb (ha:PE X a ta) (hb:PE X (.BoolOp .And (b :: rest) pos) tb):PE X (.BoolOp .And (a :: b :: rest) pos) (tAndV ta tb):=by
 intro pins s σ H Q I h
 refine BoolOp_and (thn (ha pins s σ H _ I h) fun v s1 ⟨x,H1,I1,r1,q1⟩=>?_)
 obtain ⟨c,rfl,q1⟩:=q1
 cases r1
 refine wpAny_truthy_bool ?_
 cases c with
 | true=>exact hb pins s1 σ H1 Q I1 q1
 | false=>exact ⟨.bl false,H1,I1,rfl,q1⟩
end
end L2
namespace L2
open PySem PySem.Spec PyProof.Rows
noncomputable def SqL (K:PySem.W.Frag) (H:Hp) (a:Addr) (xs:List V):Prop:=
 Rd H a (.lst xs) \/
  ∃ (o:Obj) (its:Array Value) (n:Nat),K.lookup a=some o /\ o.cls=.type "list" /\ o.dict=none /\ o.data=.seq its n /\ its.size<=sizeLine /\ Vals xs its.toList
noncomputable def SqT (K:PySem.W.Frag) (H:Hp) (a:Addr) (xs:List V):Prop:=
 Rd H a (.tup xs) \/
  ∃ (o:Obj) (its:Array Value) (n:Nat),K.lookup a=some o /\ o.cls=.type "tuple" /\ o.data=.seq its n /\ its.size<=sizeLine /\ Vals xs its.toList
noncomputable def absV:Value->Option V
 | .none=>some .non
 | .bool b=>some (.bl b)
 | .int i _=>some (.int i)
 | .str x _=>some (.str x)
 | .bytes b _=>some (.byt b)
 | .float b _=>some (.flt b)
 | .ref a=>some (.ref a)
 | .type n=>some (.ty n)
 | _=>none
theorem RelV.abs {x:V} {u:Value} (r:RelV x u):absV u=some x:=by
 cases x with
 | non=>cases r; rfl
 | bl _=>cases r; rfl
 | int _=>obtain ⟨t,rfl⟩:=r; rfl
 | str _=>obtain ⟨t,rfl⟩:=r; rfl
 | byt _=>obtain ⟨t,rfl⟩:=r; rfl
 | flt _=>obtain ⟨t,rfl⟩:=r; rfl
 | ref _=>cases r; rfl
 | ty _=>cases r; rfl
theorem RelV.inj {x y:V} {u:Value} (r:RelV x u) (q:RelV y u):x=y:=Option.some.inj (r.abs.symm.trans q.abs)
theorem Vals.inj:∀ {xs ys:List V} {us:List Value},Vals xs us->Vals ys us->xs=ys
 | _,_,_,.nil,.nil=>rfl
 | _,_,_,.cons r t,.cons r' t'=>by rw [r.inj r',Vals.inj t t']
section
variable {X:Cx} {pins:List (Addr×Obj)} {σ:St} {H:Hp} {s:Shared} {a:Addr} {xs ys:List V}
theorem SqL.of {K:PySem.W.Frag} (h:H a=some (.lst xs)):SqL K H a xs:=.inl (.inl h)
theorem Inv.list (I:Inv X pins σ H s) (h:SqL X.K H a xs):∃ its:List Value,Vals xs its /\ PlainL s.heap a its.toArray /\ xs.length<=sizeLine:=by
 rcases h with h | ⟨o,its,n,hk,hc,hd,hs,hz,r⟩
 ·obtain ⟨z,its,n,r,e⟩:=h.ok I.hok
  exact ⟨its,r,⟨_,n,e,rfl,rfl,rfl⟩,z⟩
 ·refine ⟨its.toList,r,⟨o,n,I.kIn a o hk,hc,hd,by simpa using hs⟩,?_⟩
  have e:=r.length
  simp only [Array.length_toList] at e
  omega
theorem Inv.tuple (I:Inv X pins σ H s) (h:SqT X.K H a xs):∃ its:List Value,Vals xs its /\ IsTup s.heap a its.toArray /\ xs.length<=sizeLine:=by
 rcases h with h | ⟨o,its,n,hk,hc,hs,hz,r⟩
 ·obtain ⟨z,its,r,p⟩:=h.ok I.hok
  exact ⟨its,r,p,z⟩
 ·refine ⟨its.toList,r,⟨o,I.kIn a o hk,hc,n,by simpa using hs⟩,?_⟩
  have e:=r.length
  simp only [Array.length_toList] at e
  omega
theorem Inv.list_inj (I:Inv X pins σ H s) (h:SqL X.K H a xs) (h':SqL X.K H a ys):xs=ys:=by
 obtain ⟨its,r,⟨o,n,e,_,_,d⟩,_⟩:=I.list h
 obtain ⟨its',r',⟨o',n',e',_,_,d'⟩,_⟩:=I.list h'
 rw [e] at e'; cases e'
 rw [d] at d'
 injection d' with d1 _
 have:its=its':=by simpa using congrArg Array.toList d1
 subst this
 exact r.inj r'
theorem Inv.tuple_inj (I:Inv X pins σ H s) (h:SqT X.K H a xs) (h':SqT X.K H a ys):xs=ys:=by
 obtain ⟨its,r,⟨o,e,_,n,d⟩,_⟩:=I.tuple h
 obtain ⟨its',r',⟨o',e',_,n',d'⟩,_⟩:=I.tuple h'
 rw [e] at e'; cases e'
 rw [d] at d'
 injection d' with d1 _
 have:its=its':=by simpa using congrArg Array.toList d1
 subst this
 exact r.inj r'
end
noncomputable abbrev Cx.wish (X:Cx) (E:Value->Shared->Prop):Cx:={ X with xe:=E }
noncomputable abbrev Cx.nox (X:Cx):Cx:=X.wish fun _ _=>False
theorem Cx.Ok.wish {X:Cx} (ok:X.Ok) (E:Value->Shared->Prop):(X.wish E).Ok:=
 ⟨ok.mod,ok.kind,ok.glob,ok.blt,ok.above,ok.inj,ok.has,ok.cab,ok.hd,ok.frames,ok.stk,ok.exf,ok.bs,ok.bsz,ok.noex,ok.exfs,ok.funs,ok.frf⟩
theorem Cx.Ok.unwish {X:Cx} {E:Value->Shared->Prop} (ok:(X.wish E).Ok):X.Ok:=
 ⟨ok.mod,ok.kind,ok.glob,ok.blt,ok.above,ok.inj,ok.has,ok.cab,ok.hd,ok.frames,ok.stk,ok.exf,ok.bs,ok.bsz,ok.noex,ok.exfs,ok.funs,ok.frf⟩
section
variable {X:Cx} {pins:List (Addr×Obj)} {σ:St} {H:Hp} {s:Shared} {E:Value->Shared->Prop}
theorem Inv.wish (I:Inv X pins σ H s) (E:Value->Shared->Prop):Inv (X.wish E) pins σ H s:=⟨I.ok.wish E,I.os,I.bare,I.base,I.loc,I.cell,I.free,I.freeC,I.pin,I.hok,I.len⟩
theorem Inv.unwish (I:Inv (X.wish E) pins σ H s):Inv X pins σ H s:=⟨I.ok.unwish,I.os,I.bare,I.base,I.loc,I.cell,I.free,I.freeC,I.pin,I.hok,I.len⟩
theorem SP.unwish {D:Ends} {f:Flow} {s':Shared} (h:SP (X.wish E) pins D f s'):SP X pins D f s':=by
 cases f with
 | next=>obtain ⟨σ',H',I,q⟩:=h; exact ⟨σ',H',I.unwish,q⟩
 | brk=>obtain ⟨σ',H',I,q⟩:=h; exact ⟨σ',H',I.unwish,q⟩
 | cont=>obtain ⟨σ',H',I,q⟩:=h; exact ⟨σ',H',I.unwish,q⟩
 | ret u=>obtain ⟨v,σ',H',I,r,q⟩:=h; exact ⟨v,σ',H',I.unwish,r,q⟩
theorem PSs.nox {st:List Stmt} {t:TS} (h:PSs X.nox st t):PSs X st t:=fun pins s σ H D I hw=>
 wpAny_mono (h pins s σ H D (I.wish _) hw) (fun _ _ q=>q.unwish) fun _ _ z=>False.elim z
end
section
variable {X:Cx} {st:Stmt} {rest:List Stmt} {t u:TS} {e:Expr} {te:TE} {pos:Pos}
noncomputable def tNext:TS:=fun D σ H=>D.nx σ H
noncomputable def tSeq (t u:TS):TS:=fun D σ H=>t { D with nx:=u D } σ H
theorem zkO:PSs X [] tNext:=fun _ _ σ H _ I h=>wpAny_execs_nil ⟨σ,H,I,h⟩
theorem zjI (h1:PS X st t) (h2:PSs X rest u):PSs X (st :: rest) (tSeq t u):=by
 intro pins s σ H D I h
 refine wpAny_execs_cons (thn (h1 pins s σ H { D with nx:=u D } I h) fun f s1 q=>?_)
 cases f with
 | next=>
   obtain ⟨σ',H',I',q⟩:=q
   exact h2 pins s1 σ' H' D I' q
 | ret v=>exact q
 | brk=>exact q
 | cont=>exact q
theorem zkp (h1:PS X st t):PSs X [st] t:=by
 intro pins s σ H D I h
 refine wpAny_execs_cons (thn (h1 pins s σ H D I h) fun f s1 q=>?_)
 cases f with
 | next=>exact wpAny_execs_nil q
 | ret v=>exact q
 | brk=>exact q
 | cont=>exact q
theorem Inv.quiet {pins:List (Addr×Obj)} {σ:St} {H:Hp} {s:Shared} (I:Inv X pins σ H s):interactive X.env=false:=by simp [interactive,I.ok.kind]
noncomputable def tDrop (te:TE):TS:=fun D σ H=>te σ H fun _ H1=>D.nx σ H1
theorem za0 (he:PE X e te) (hs:swapsWith e none pos.line X.env=pure false:=by rfl):PS X (.Expr e pos) (tDrop te):=by
 intro pins s σ H D I h
 exact wpAny_Expr_any (thn (he pins s σ H _ I h) fun v s1 ⟨x,H1,I1,r1,q1⟩=>⟨σ,H1,I1,q1⟩) I.quiet hs
noncomputable def tRet (te:TE):TS:=fun D σ H=>te σ H D.rt
theorem zhi (he:PE X e te):PS X (.Return (some e) pos) (tRet te):=by
 intro pins s σ H D I h
 exact wpAny_Return_some (thn (he pins s σ H _ I h) fun v s1 ⟨x,H1,I1,r1,q1⟩=>⟨x,σ,H1,I1,r1,q1⟩)
noncomputable def tIfS (c:TT) (t u:TS):TS:=fun D σ H=>c σ H fun b H1=>if b=true then t D σ H1 else u D σ H1
theorem zmV {c:Expr} {a b:List Stmt} {tc:TT} (hc:PT X c tc) (ha:PSs X a t) (hb:PSs X b u):PS X (.If c a b pos) (tIfS tc t u):=by
 intro pins s σ H D I h
 refine wpAny_If (thn (hc pins s σ H _ I h) fun d s1 ⟨H1,I1,q1⟩=>?_)
 cases d with
 | true=>exact ha pins s1 σ H1 D I1 q1
 | false=>exact hb pins s1 σ H1 D I1 q1
noncomputable def tNever:TS:=fun _ _ _=>False
theorem zhS {sts:List Stmt}:PSs X sts tNever:=fun _ _ _ _ _ _ h=>h.elim
end
noncomputable abbrev TG:=V->St->Hp->(St->Hp->Prop)->Prop
noncomputable abbrev TGs:=List V->St->Hp->(St->Hp->Prop)->Prop
noncomputable def PG (X:Cx) (target:Expr) (t:TG):Prop:=
 ∀ (pins:List (Addr×Obj)) (s:Shared) (σ:St) (H:Hp) (v:V) (u:Value) (Q:St->Hp->Prop),Inv X pins σ H s->RelV v u->t v σ H Q->
   wpAny (model X.prog X.w) X.A (assign target X.env u) (fun _ s'=>∃ σ' H',Inv X pins σ' H' s' /\ Q σ' H') X.xe s
noncomputable def PGs (X:Cx) (ts:List Expr) (t:TGs):Prop:=
 ∀ (pins:List (Addr×Obj)) (s:Shared) (σ:St) (H:Hp) (vs:List V) (us:List Value) (Q:St->Hp->Prop),Inv X pins σ H s->Vals vs us->t vs σ H Q->
   wpAny (model X.prog X.w) X.A (assignInOrder ((assignEach ts X.env).map (·.2)) us) (fun _ s'=>∃ σ' H',Inv X pins σ' H' s' /\ Q σ' H') X.xe s
section
variable {X:Cx} {pos:Pos}
noncomputable def gName (i:Nat):TG:=fun v σ H Q=>Q (σ.set i (some v)) H
theorem zu {i:Nat} {x:Str} (hN:X.N.Nodup) (hi:X.N[i]?=some x) (hx:Loc X.env.scope x) (hf:X.fn x=true \/ X.env.scope.names.lookup x=some .local:=by first | exact .inl rfl | exact .inr rfl | assumption):PG X (.Name x pos) (gName i):=by
 intro pins s σ H v u Q I r h
 exact wpAny_assign_Name (zdA I hN hi hx r (fun s' I'=>⟨_,H,I',h⟩) hf)
noncomputable def gNil:TGs:=fun vs σ H Q=>vs=[] /\ Q σ H
noncomputable def gCons (t:TG) (u:TGs):TGs:=fun vs σ H Q=>∃ v r,vs=v :: r /\ t v σ H fun σ' H'=>u r σ' H' Q
theorem zkJ:PGs X [] gNil:=by
 intro pins s σ H vs us Q I r h
 obtain ⟨e,h⟩:=h
 subst e
 cases r
 exact assignInOrder_nil ⟨σ,H,I,h⟩
theorem zi8 {e:Expr} {es:List Expr} {t:TG} {u:TGs} (h1:PG X e t) (h2:PGs X es u)
  (hs:(assignEach (e :: es) X.env).map (·.2)=assign e X.env :: (assignEach es X.env).map (·.2):=by rfl):PGs X (e :: es) (gCons t u):=by
 intro pins s σ H vs us Q I r h
 obtain ⟨v,vr,e1,h⟩:=h
 subst e1
 cases r with
 | cons r rr=>
   rw [hs]
   refine assignInOrder_cons (thn (h1 pins s σ H _ _ _ I r h) fun _ s1 ⟨σ1,H1,I1,q1⟩=>?_)
   exact h2 pins s1 σ1 H1 _ _ Q I1 rr q1
noncomputable def gTup (K:PySem.W.Frag) (n:Nat) (t:TGs):TG:=fun v σ H Q=>∃ a xs,v=.ref a /\ SqT K H a xs /\ xs.length=n /\ t xs σ H Q
theorem zlD {es:List Expr} {k:Nat} {t:TGs} {n:Nat} (hc:X.calm=true) (h:PGs X es t)
  (hn:(assignEach es X.env).length=n:=by rfl) (hst:(assignEach es X.env).findIdx? (·.1)=none:=by rfl):PG X (.Tuple es k pos) (gTup X.K n t):=by
 intro pins s σ H v u Q I r hw
 obtain ⟨a,xs,e1,hq,hl,hw⟩:=hw
 subst e1
 cases r
 obtain ⟨its,rv,ht,hz⟩:=I.tuple hq
 refine assign_Tuple_tuple (I.ok.hd hc) ht (by simp [hn,<- hl,rv.length]) hst fun h' hx=>?_
 have I1:Inv X pins σ H { s with heap:=h' }:=I.kept (t':=s.toks) fun b o e=>hx b o (Nat.ne_of_lt (Heap.lt_size e)) e
 exact h pins _ σ H xs _ Q I1 (by simpa using rv) hw
noncomputable def tAsg (te:TE) (g:TG):TS:=fun D σ H=>te σ H fun x H1=>g x σ H1 D.nx
theorem zq {i:Nat} {x:Str} {e:Expr} {te:TE} {pos':Pos} (hN:X.N.Nodup) (hi:X.N[i]?=some x) (hx:Loc X.env.scope x) (he:PE X e te) (hs:swapsWith e (some (.Name x pos')) pos.line X.env=pure false:=by rfl) (hf:X.fn x=true \/ X.env.scope.names.lookup x=some .local:=by first | exact .inl rfl | exact .inr rfl | assumption):
  PS X (.Assign [.Name x pos'] e pos) (tAsg te (gName i)):=by
 intro pins s σ H D I h
 refine wpAny_Assign_Name (thn (he pins s σ H _ I h) fun v s1 ⟨y,H1,I1,r1,q1⟩=>?_) hs
 exact zdA I1 hN hi hx r1 (fun s2 I2=>⟨_,H1,I2,q1⟩) hf
end
section
variable {X:Cx} {pos:Pos}
noncomputable def tWhile (c:TT) (tb:TS):TS:=fun D σ H=>∃ W:Nat->St->Hp->Prop,(∃ m,W m σ H) /\ ∀ m σ H,W m σ H->
 c σ H fun b H1=>if b=true then ∃ N:St->Hp->Prop,(∀ σ' H',N σ' H'->∃ m',m' < m /\ W m' σ' H') /\ tb { D with nx:=N,ct:=N,bk:=D.nx } σ H1 else D.nx σ H1
theorem zi4 {c:Expr} {body:List Stmt} {tc:TT} {tb:TS} (hp:PassesOwn (model X.prog X.w) X.A X.env X.xe) (hc:PT X c tc) (hb:PSs X body tb):PS X (.While c body [] pos) (tWhile tc tb):=by
 intro pins s σ H D I h
 obtain ⟨W,⟨m0,w0⟩,turn⟩:=h
 refine wpAny_While (codeAny_whileLoop (fun n s'=>∃ σ' H',Inv X pins σ' H' s' /\ W n σ' H') ?_ m0 ⟨σ,H,I,w0⟩)
 rintro n s1 ⟨σ1,H1,I1,w1⟩
 refine wpAny_passesOwn hp (thn (hc pins s1 σ1 H1 _ I1 (turn n σ1 H1 w1)) fun b s2 ⟨H2,I2,q2⟩=>?_)
 cases b with
 | true=>
   obtain ⟨N,hN,q2⟩:=q2
   rw [if_pos rfl]
   refine wpAny_passesOwn hp (thn (hb pins s2 σ1 H2 _ I2 q2) fun f s3 q3=>?_)
   cases f with
   | next=>
     obtain ⟨σ3,H3,I3,n3⟩:=q3
     obtain ⟨m',hm,w3⟩:=hN σ3 H3 n3
     exact ⟨m',hm,σ3,H3,I3,w3⟩
   | cont=>
     obtain ⟨σ3,H3,I3,n3⟩:=q3
     obtain ⟨m',hm,w3⟩:=hN σ3 H3 n3
     exact ⟨m',hm,σ3,H3,I3,w3⟩
   | brk=>exact q3
   | ret v=>exact q3
 | false=>
   rw [if_neg Bool.false_ne_true]
   exact wpAny_execs_nil ⟨σ1,H2,I2,q2⟩
end
structure It where
 go:Nat->Hp->Prop
 yld:Nat->Hp->V->Hp->Prop
 stop:Nat->Hp->Prop
noncomputable def FpOk (X:Cx) (pins:List (Addr×Obj)) (H:Hp) (b:Addr):Prop:=
 H b=none /\ b≠X.env.locals /\ b∉X.fs /\ (b∈X.ex \/ X.s₀.heap.objs.size<=b) /\ (∀ x c,X.env.cells.lookup x=some c->c≠b) /\ ∀ p∈X.pn ++ pins,p.1≠b
theorem Inv.fpOk {X:Cx} {pins:List (Addr×Obj)} {σ:St} {H H':Hp} {s:Shared} {b:Addr} (I:Inv X pins σ H s) (hb:s.heap.objs.size<=b) (hn:H' b=none):FpOk X pins H' b:=by
 refine ⟨hn,Nat.ne_of_gt (Nat.lt_of_lt_of_le I.lt hb),I.nofs hb,.inr (Nat.le_trans I.sz hb),fun x c e z=>?_,fun p hp z=>?_⟩
 ·obtain ⟨v,q⟩:=I.cell x c e
  exact absurd (Nat.lt_of_lt_of_le q.lt (by rw [z]; exact hb)) (Nat.lt_irrefl _)
 ·exact absurd (Nat.lt_of_lt_of_le (Heap.lt_size (I.pin p hp).1) (by rw [z]; exact hb)) (Nat.lt_irrefl _)
noncomputable abbrev calmG (X:Cx):Prop:=X.calm=true
structure TurnG (gd:Cx->Prop) (P:Program) (w:World) (K:PySem.W.Frag) (tg:Expr) (J:It) (fp:List Addr) (it:Addr) (tn:Nat->Heap->Prop):Prop where
 mem:it∈fp
 obj:∀ i h,tn i h->∀ b∈fp,∃ o,h.get? b=some o /\ ∀ v,o.data≠.cell v
 keep:∀ i h h',tn i h->(∀ b∈fp,∀ o,h.get? b=some o->h'.get? b=some o)->tn i h'
 item:∀ (X:Cx),X.prog=P->X.w=w->X.K=K->gd X->∀ (i:Nat) (pins:List (Addr×Obj)) (s:Shared) (σ:St) (H:Hp) (E:Value->Shared->Prop),Inv X pins σ H s->(∀ b∈fp,FpOk X pins H b)->tn i s.heap->J.go i H->
  wpAny (model P w) X.A (pyNext (.ref it)) (fun r s1=>∃ u,r=some u /\
   wpAny (model P w) X.A (letOwnedTupleGo tg (.ref it) u) (fun _ s2=>∃ x H',Inv X pins σ H' s2 /\ RelV x u /\ J.yld i H x H' /\ tn (i + 1) s2.heap /\ ∀ b∈fp,H' b=none) E s1) E s
 done:∀ (X:Cx),X.prog=P->X.w=w->X.K=K->gd X->∀ (i:Nat) (pins:List (Addr×Obj)) (s:Shared) (σ:St) (H:Hp) (E:Value->Shared->Prop),Inv X pins σ H s->(∀ b∈fp,FpOk X pins H b)->tn i s.heap->J.stop i H->
  wpAny (model P w) X.A (pyNext (.ref it)) (fun r s1=>r=none /\ Inv X pins σ H s1) E s
 self:∀ (A:Around) (i:Nat) (s:Shared) (Q:Value->Shared->Prop) (E:Value->Shared->Prop),tn i s.heap->Q (.ref it) s->wpAny (model P w) A (pyIter (.ref it)) Q E s
noncomputable abbrev Turn:=TurnG calmG
noncomputable abbrev TI:=St->Hp->(It->Hp->Prop)->Prop
noncomputable def PIEG (gd:Cx->Prop) (X:Cx) (pins:List (Addr×Obj)) (σ:St) (tg:Expr) (R:It->Hp->Prop) (itv:Value) (s2:Shared):Prop:=
 ∃ (it:Addr) (fp:List Addr) (tn:Nat->Heap->Prop) (J:It) (H':Hp),itv=.ref it /\ Inv X pins σ H' s2 /\ TurnG gd X.prog X.w X.K tg J fp it tn /\ tn 0 s2.heap /\ (∀ b∈fp,FpOk X pins H' b) /\ R J H'
noncomputable abbrev PIE:=PIEG calmG
noncomputable def PIG (gd:Cx->Prop) (X:Cx) (tg iter:Expr) (wi:TI):Prop:=
 ∀ (pins:List (Addr×Obj)) (s:Shared) (σ:St) (H:Hp) (R:It->Hp->Prop),Inv X pins σ H s->wi σ H R->
   wpAny (model X.prog X.w) X.A (eval iter X.env) (fun v s1=>wpAny (model X.prog X.w) X.A (pyIter v) (PIEG gd X pins σ tg R) X.xe s1) X.xe s
noncomputable abbrev PI:=PIG calmG
theorem zjd {M:Model} {A:Around} {E:Value->Shared->Prop} {s:Shared} {tg:Expr} {it:Addr} {u:Value} {o:Obj} {n:String} {vs:Array Value} {Q:Unit->Shared->Prop} (ho:s.heap.get? it=some o) (hc:o.cls=.type n) (hd:o.data=.fields vs)
  (hn:["enumerate","zip","dict_itemiterator","dict_reverseitemiterator","odict_iterator","itertools.zip_longest","itertools.pairwise"].contains n=false) (hQ:Q () s):wpAny M A (letOwnedTupleGo tg (.ref it) u) Q E s:=by
 unfold letOwnedTupleGo
 cases tg <;> first
  | exact wpAny_pure hQ
  | (cases u <;> first
    | exact wpAny_pure hQ
    | (refine wpAny_bind (wpAny_load ho ?_)
       rw [hc,hd]
       show wpAny M A (if (["enumerate","zip","dict_itemiterator","dict_reverseitemiterator","odict_iterator","itertools.zip_longest","itertools.pairwise"].contains n && vs[0]? == some (rawInt _))=true then _ else _) Q E s
       rw [if_neg (by intro h; rw [hn,Bool.false_and] at h; cases h)]
       exact wpAny_pure hQ))
noncomputable def Itl (K:PySem.W.Frag) (a:Addr):It:=
 ⟨fun i H=>∃ xs x,SqL K H a xs /\ xs[i]?=some x,fun i H x H'=>H'=H /\ ∀ xs,SqL K H a xs->xs[i]?=some x,fun i H=>∃ xs,SqL K H a xs /\ xs.length<=i⟩
noncomputable def Itt (K:PySem.W.Frag) (a:Addr):It:=
 ⟨fun i H=>∃ xs x,SqT K H a xs /\ xs[i]?=some x,fun i H x H'=>H'=H /\ ∀ xs,SqT K H a xs->xs[i]?=some x,fun i H=>∃ xs,SqT K H a xs /\ xs.length<=i⟩
noncomputable def Itr (lo:Int) (n:Nat):It:=⟨fun i _=>i < n,fun i H x H'=>H'=H /\ x=.int (lo + i),fun i _=>n<=i⟩
theorem zhl {P:Program} {w:World} {K:PySem.W.Frag} {tg:Expr} (a it:Addr):Turn P w K tg (Itl K a) [it] it (fun i h=>h.IsListIter it a i) where
 mem:=by simp
 obj:=fun i h st b hb=>by
  have e:b=it:=by simpa using hb
  subst e
  obtain ⟨o,e,c,d⟩:=st
  exact ⟨o,e,fun v z=>by rw [d] at z; cases z⟩
 keep:=fun i h h' st k=>st.at fun o e=>k it (by simp) o e
 item:=by
  intro X hP hw hK hc i pins s σ H E I hf st hg
  subst hP hw hK
  obtain ⟨xs,x,hq,hx⟩:=hg
  obtain ⟨its,rv,p,hz⟩:=I.list hq
  obtain ⟨u,hu,ru⟩:=rv.get hx
  obtain ⟨f0,f1,f2,f3,f4,f5⟩:=hf it (by simp)
  refine wpAny_pyNext_list_item st p.isList (x:=u) (by simpa using hu) fun h' st' sb=>?_
  have I1:Inv X pins σ H { s with heap:=h' }:=I.turned (t':=s.toks) (fun b o hb e=>(sb.2 b hb).trans e) f0 f1 f3 f4 f5
  obtain ⟨o,e,c,d⟩:=id st'
  exact ⟨u,rfl,zjd (s:={ s with heap:=h' }) e c d (by decide) ⟨x,H,I1,ru,⟨rfl,fun ys hy=>by rw [I.list_inj hy hq]; exact hx⟩,st',fun b hb=>(hf b hb).1⟩⟩
 done:=by
  intro X hP hw hK hc i pins s σ H E I hf st hg
  subst hP hw hK
  obtain ⟨xs,hq,hx⟩:=hg
  obtain ⟨its,rv,p,hz⟩:=I.list hq
  obtain ⟨f0,f1,f2,f3,f4,f5⟩:=hf it (by simp)
  have hl:=rv.length
  exact wpAny_pyNext_list_end (I.ok.hd hc) st p.isList (by simp; omega) fun h' eb=>⟨rfl,I.turned (t':=s.toks) (fun b o hb e=>eb b o hb e) f0 f1 f3 f4 f5⟩
 self:=fun _ _ _ _ _ st h=>wpAny_pyIter_listiter st h
theorem zf4 {P:Program} {w:World} {K:PySem.W.Frag} {tg:Expr} (a it:Addr):Turn P w K tg (Itt K a) [it] it (fun i h=>h.IsTupleIter it a i) where
 mem:=by simp
 obj:=fun i h st b hb=>by
  have e:b=it:=by simpa using hb
  subst e
  obtain ⟨o,e,c,d⟩:=st
  exact ⟨o,e,fun v z=>by rw [d] at z; cases z⟩
 keep:=fun i h h' st k=>st.at fun o e=>k it (by simp) o e
 item:=by
  intro X hP hw hK hc i pins s σ H E I hf st hg
  subst hP hw hK
  obtain ⟨xs,x,hq,hx⟩:=hg
  obtain ⟨its,rv,p,hz⟩:=I.tuple hq
  obtain ⟨u,hu,ru⟩:=rv.get hx
  obtain ⟨f0,f1,f2,f3,f4,f5⟩:=hf it (by simp)
  refine wpAny_pyNext_tuple_item st (show s.heap.IsTuple a its.toArray from p) (x:=u) (by simpa using hu) fun h' st' sb=>?_
  have I1:Inv X pins σ H { s with heap:=h' }:=I.turned (t':=s.toks) (fun b o hb e=>(sb.2 b hb).trans e) f0 f1 f3 f4 f5
  obtain ⟨o,e,c,d⟩:=id st'
  exact ⟨u,rfl,zjd (s:={ s with heap:=h' }) e c d (by decide) ⟨x,H,I1,ru,⟨rfl,fun ys hy=>by rw [I.tuple_inj hy hq]; exact hx⟩,st',fun b hb=>(hf b hb).1⟩⟩
 done:=by
  intro X hP hw hK hc i pins s σ H E I hf st hg
  subst hP hw hK
  obtain ⟨xs,hq,hx⟩:=hg
  obtain ⟨its,rv,p,hz⟩:=I.tuple hq
  obtain ⟨f0,f1,f2,f3,f4,f5⟩:=hf it (by simp)
  have hl:=rv.length
  exact wpAny_pyNext_tuple_end (I.ok.hd hc) st (show s.heap.IsTuple a its.toArray from p) (by simp; omega) fun h' eb=>⟨rfl,I.turned (t':=s.toks) (fun b o hb e=>eb b o hb e) f0 f1 f3 f4 f5⟩
 self:=fun _ _ _ _ _ st h=>wpAny_pyIter_tupleiter st h
theorem zgv {P:Program} {w:World} {K:PySem.W.Frag} {tg:Expr} (it:Addr) (lo:Int) (n:Nat):Turn P w K tg (Itr lo n) [it] it (fun i h=>IsRangeIter h it (lo + (i:Nat) * 1) ((n:Int) - (i:Nat)) 1) where
 mem:=by simp
 obj:=fun i h st b hb=>by
  have e:b=it:=by simpa using hb
  subst e
  exact ⟨_,st,fun v z=>by
   have z':Data.fields _=Data.cell v:=z
   cases z'⟩
 keep:=fun i h h' st k=>k it (by simp) _ st
 item:=by
  intro X hP hw hK hc i pins s σ H E I hf st hg
  subst hP hw hK
  obtain ⟨f0,f1,f2,f3,f4,f5⟩:=hf it (by simp)
  have W:=Walks.range (prog:=X.prog) (w:=X.w) (I.ok.hd hc) it lo 1 n
  refine W.item i s _ _ hg st fun v h' tk hv st' kk=>?_
  obtain ⟨t,rfl⟩:=hv
  have I1:Inv X pins σ H { s with heap:=h',toks:=tk }:=I.turned (fun b o hb e=>kk b o (by simpa using hb) e) f0 f1 f3 f4 f5
  refine ⟨_,rfl,zjd (s:={ s with heap:=h',toks:=tk }) (n:="range_iterator") st' rfl rfl (by decide) ⟨.int (lo + i),H,I1,⟨t,?_⟩,⟨rfl,rfl⟩,st',fun b hb=>(hf b hb).1⟩⟩
  rw [Int.mul_one]
 done:=by
  intro X hP hw hK hc i pins s σ H E I hf st hg
  subst hP hw hK
  obtain ⟨f0,f1,f2,f3,f4,f5⟩:=hf it (by simp)
  exact wpAny_pyNext_range_end (I.ok.hd hc) st (by have:n<=i:=hg; omega) fun h' eb=>⟨rfl,I.turned (t':=s.toks) (fun b o hb e=>eb b o hb e) f0 f1 f3 f4 f5⟩
 self:=fun _ _ _ _ _ st h=>wpAny_pyIter_rangeiter st h
end L2
namespace L2
open PySem PySem.Spec PyProof.Rows
section
variable {X:Cx} {tg:Expr}
theorem zfP {pins:List (Addr×Obj)} {σ:St} {H:Hp} {s:Shared} {R:It->Hp->Prop} {E:Value->Shared->Prop} {lo hi:Int} {t u v:Tok} {tk:Nat} (I:Inv X pins σ H s) (h1: -(2 ^ 62)<=lo) (h2:lo < 2 ^ 62) (h3: -(2 ^ 62)<=hi) (h4:hi < 2 ^ 62)
  (q:R (Itr lo (hi - lo).toNat) H):wpAny (model X.prog X.w) X.A (pyIter (.ref s.heap.objs.size)) (PIE X pins σ tg R) E { s with heap:=s.heap.push { cls:=.type "range",data:=.fields #[.int lo t,.int hi u,.int 1 v] },toks:=tk }:=by
 refine wpAny_pyIter_range (IsRange.new ..) (small_one h1 h2 h3 h4) ?_
 have I1:Inv X pins σ H { s with heap:=s.heap.push { cls:=.type "range",data:=.fields #[.int lo t,.int hi u,.int 1 v] },toks:=tk }:=I.kept fun b o e=>Heap.get?_push_of_some _ e
 refine ⟨(s.heap.push { cls:=.type "range",data:=.fields #[.int lo t,.int hi u,.int 1 v] }).objs.size,[(s.heap.push { cls:=.type "range",data:=.fields #[.int lo t,.int hi u,.int 1 v] }).objs.size],_,_,H,rfl,
  I1.kept (t':=tk) fun b o e=>Heap.get?_push_of_some _ e,zgv _ lo (hi - lo).toNat,?_,fun b hb=>?_,q⟩
 ·have e1:lo + ((0:Nat):Int) * 1=lo:=by simp
  have e2:(((hi - lo).toNat:Nat):Int) - ((0:Nat):Int)=Builtin.Range.rangeSize lo hi 1:=by rw [rangeSize_one]; split <;> omega
  show IsRangeIter _ _ (lo + ((0:Nat):Int) * 1) ((((hi - lo).toNat:Nat):Int) - ((0:Nat):Int)) 1
  rw [e1,e2]
  exact Heap.get?_push_size _ rfl
 ·have e:b=(s.heap.push { cls:=.type "range",data:=.fields #[.int lo t,.int hi u,.int 1 v] }).objs.size:=by simpa using hb
  subst e
  exact I1.fpOk (Nat.le_refl _) (I1.hok.fresh (Nat.le_refl _))
noncomputable def iRng1 (ta:TA):TI:=fun σ H R=>ta σ H fun vs H1=>∃ j:Int,vs=[.int j] /\ -(2 ^ 62)<=j /\ j < 2 ^ 62 /\ R (Itr 0 j.toNat) H1
noncomputable def iRng2 (ta:TA):TI:=fun σ H R=>ta σ H fun vs H1=>∃ i j:Int,vs=[.int i,.int j] /\ (-(2 ^ 62)<=i /\ i < 2 ^ 62 /\ -(2 ^ 62)<=j /\ j < 2 ^ 62) /\ R (Itr i (j - i).toNat) H1
theorem ziu {a:Expr} {ta:TA} {p pos:Pos} (hg:Gl X "range") (hm:X.mg "range"=none) (ha:PA X [a] ta) (hs:starEach [a] X.env=[(false,eval a X.env)]:=by rfl):PI X tg (.Call (.Name "range" p) [a] [] pos) (iRng1 ta):=by
 intro pins s σ H R I h
 refine Call_ (zbM I hg hm boot_range (PyProof.Rows.callWith_type1 (thn (ha pos pins s σ H _ I h) fun us s1 ⟨vs,H1,I1,r1,q1⟩=>?_) hs rfl))
 obtain ⟨j,e,q1,q2,q⟩:=q1
 subst e
 cases r1 with
 | cons r rr=>
   cases rr
   obtain ⟨t,rfl⟩:=r
   exact call_range_1 (zfP I1 (by omega) (by omega) q1 q2 (by simpa using q))
theorem zh7 {a b:Expr} {ta:TA} {p pos:Pos} (hg:Gl X "range") (hm:X.mg "range"=none) (ha:PA X [a,b] ta) (hs:starEach [a,b] X.env=[(false,eval a X.env),(false,eval b X.env)]:=by rfl) (hs2:starEach [b] X.env=[(false,eval b X.env)]:=by rfl):
  PI X tg (.Call (.Name "range" p) [a,b] [] pos) (iRng2 ta):=by
 intro pins s σ H R I h
 refine Call_ (zbM I hg hm boot_range (PyProof.Rows.callWith_type1 (thn (ha pos pins s σ H _ I h) fun us s1 ⟨vs,H1,I1,r1,q1⟩=>?_) (by rw [hs,hs2]) (by rw [hs2]; rfl)))
 obtain ⟨i,j,e,⟨q1,q2,q3,q4⟩,q⟩:=q1
 subst e
 cases r1 with
 | cons r rr=>
   cases rr with
   | cons r' rr=>
     cases rr
     obtain ⟨t,rfl⟩:=r
     obtain ⟨t',rfl⟩:=r'
     exact call_range_2 (zfP I1 q1 q2 q3 q4 q)
noncomputable def tFor (wi:TI) (g:TG) (tb:TS):TS:=fun D σ H=>wi σ H fun J H1=>∃ W:Nat->Nat->St->Hp->Prop,(∃ m,W 0 m σ H1) /\ ∀ i m σ H,W i m σ H->
 (J.stop i H /\ D.nx σ H) \/ (J.go i H /\ ∃ N:St->Hp->Prop,(∀ σ' H',N σ' H'->∃ m',m' < m /\ W (i + 1) m' σ' H') /\ ∀ x H',J.yld i H x H'->g x σ H' fun σ2 H2=>tb { D with nx:=N,ct:=N,bk:=D.nx } σ2 H2)
noncomputable def pinsAt (fp:List Addr) (h:Heap):List (Addr×Obj):=fp.filterMap fun b=>(h.get? b).map fun o=>(b,o)
theorem zaN {fp:List Addr} {h:Heap} {b:Addr} {o:Obj} (hb:b∈fp) (e:h.get? b=some o):(b,o)∈pinsAt fp h:=List.mem_filterMap.mpr ⟨b,hb,by rw [e]; rfl⟩
theorem zeo {fp:List Addr} {h:Heap} {p:Addr×Obj} (hp:p∈pinsAt fp h):p.1∈fp /\ h.get? p.1=some p.2:=by
 obtain ⟨b,hb,e⟩:=List.mem_filterMap.mp hp
 cases q:h.get? b with
 | none=>rw [q] at e; cases e
 | some o=>
   rw [q] at e
   have e':(b,o)=p:=Option.some.inj e
   subst e'
   exact ⟨hb,q⟩
theorem Inv.pinned {pins:List (Addr×Obj)} {σ:St} {H:Hp} {s:Shared} {fp:List Addr} (I:Inv X pins σ H s) (hf:∀ b∈fp,FpOk X pins H b) (ho:∀ b∈fp,∃ o,s.heap.get? b=some o /\ ∀ v,o.data≠.cell v):Inv X (pins ++ pinsAt fp s.heap) σ H s:=
 I.pins_of fun p hp=>(List.mem_append.mp hp).elim (fun z=>I.pin p (List.mem_append_right _ z)) fun z=>by
  obtain ⟨hb,e⟩:=zeo z
  obtain ⟨f0,f1,f2,_⟩:=hf p.1 hb
  obtain ⟨o,e',d⟩:=ho p.1 hb
  rw [e] at e'; cases e'
  exact ⟨e,f0,f1,f2,d⟩
theorem Inv.unpinned {pins pl:List (Addr×Obj)} {σ:St} {H:Hp} {s:Shared} (I:Inv X (pins ++ pl) σ H s):Inv X pins σ H s:=I.pins_of fun p hp=>I.pin p (List.mem_append_right _ (List.mem_append_left _ hp))
theorem zmy {iter:Expr} {body:List Stmt} {wi:TI} {g:TG} {tb:TS} {pos:Pos} (hp:PassesOwn (model X.prog X.w) X.A X.env X.xe) (hc:X.calm=true) (hi:PI X tg iter wi) (hg:PG X tg g) (hb:PSs X body tb)
  (hs:∀ x,foldedSetIterable iter X.env x=pure x:=by intro _; rfl):PS X (.For tg iter body [] pos) (tFor wi g tb):=by
 intro pins s σ H D I h
 refine wpAny_For (thn (hi pins s σ H _ I h) fun v s1 h1=>thn h1 fun itv s2 h2=>?_) hs
 obtain ⟨it,fp,tn,J,H2,e,I2,T,st2,f2,W,⟨m0,w0⟩,turn⟩:=h2
 subst e
 have stat:∀ {H':Hp},(∀ b∈fp,H' b=none)->∀ b∈fp,FpOk X pins H' b:=fun hn b hb=>⟨hn b hb,(f2 b hb).2⟩
 refine codeAny_forLoop_any (fun n s'=>∃ i σ' H',Inv X pins σ' H' s' /\ tn i s'.heap /\ (∀ b∈fp,H' b=none) /\ W i n σ' H') ?_ m0 ⟨0,σ,H2,I2,st2,fun b hb=>(f2 b hb).1,w0⟩
 rintro n s3 ⟨i,σ3,H3,I3,st3,fr3,w3⟩
 rcases turn i n σ3 H3 w3 with ⟨stop,qn⟩ | ⟨go,N,hN,step⟩
 ·refine wpAny_passesOwn hp (thn (T.done X rfl rfl rfl hc i pins s3 σ3 H3 X.xe I3 (stat fr3) st3 stop) fun r s4 ⟨hr,I4⟩=>?_)
  subst hr
  exact wpAny_execs_nil ⟨σ3,H3,I4,qn⟩
 ·refine wpAny_passesOwn hp (thn (T.item X rfl rfl rfl hc i pins s3 σ3 H3 X.xe I3 (stat fr3) st3 go) fun r s4 ⟨u,hr,h4⟩=>?_)
  subst hr
  refine wpAny_passesOwn hp (thn h4 fun _ s5 ⟨x,H5,I5,r5,y5,st5,fr5⟩=>?_)
  have I5':=I5.pinned (stat fr5) (T.obj _ _ st5)
  refine wpAny_passesOwn hp (thn (hg _ s5 σ3 H5 x u _ I5' r5 (step x H5 y5)) fun _ s6 ⟨σ6,H6,I6,q6⟩=>?_)
  refine wpAny_passesOwn hp (thn (hb _ s6 σ6 H6 _ I6 q6) fun f s7 q7=>?_)
  have again:∀ {σ7:St} {H7:Hp},Inv X (pins ++ pinsAt fp s5.heap) σ7 H7 s7->N σ7 H7->∃ m,m < n /\ ∃ i σ' H',Inv X pins σ' H' s7 /\ tn i s7.heap /\ (∀ b∈fp,H' b=none) /\ W i m σ' H':=fun {σ7 H7} I7 n7=>by
   obtain ⟨m',hm,w7⟩:=hN σ7 H7 n7
   refine ⟨m',hm,i + 1,σ7,H7,I7.unpinned,T.keep _ _ _ st5 fun b hb o e=>(I7.pin (b,o) (List.mem_append_right _ (List.mem_append_right _ (zaN hb e)))).1,fun b hb=>?_,w7⟩
   obtain ⟨o,e,d⟩:=T.obj _ _ st5 b hb
   exact (I7.pin (b,o) (List.mem_append_right _ (List.mem_append_right _ (zaN hb e)))).2.1
  cases f with
  | next=>obtain ⟨σ7,H7,I7,n7⟩:=q7; exact again I7 n7
  | cont=>obtain ⟨σ7,H7,I7,n7⟩:=q7; exact again I7 n7
  | brk=>obtain ⟨σ7,H7,I7,q7⟩:=q7; exact ⟨σ7,H7,I7.unpinned,q7⟩
  | ret v=>obtain ⟨x7,σ7,H7,I7,r7,q7⟩:=q7; exact ⟨x7,σ7,H7,I7.unpinned,r7,q7⟩
end
end L2
namespace L2
open PySem PySem.Spec PyProof.Rows
noncomputable abbrev R2:=V->V->Hp->VK->Prop
noncomputable def OpR (X:Cx) (f:Value->Value->Sem Value) (r:R2):Prop:=
 ∀ (pins:List (Addr×Obj)) (s:Shared) (σ:St) (H:Hp) (x y:V) (v u:Value) (Q:VK),Inv X pins σ H s->RelV x v->RelV y u->r x y H Q->
   wpAny (model X.prog X.w) X.A (f v u) (EP X pins σ Q) X.xe s
noncomputable def CallR (X:Cx) (f:Value) (r:List V->Hp->VK->Prop):Prop:=
 ∀ (pins:List (Addr×Obj)) (s:Shared) (σ:St) (H:Hp) (xs:List V) (us:List Value) (Q:VK),Inv X pins σ H s->Vals xs us->r xs H Q->
   wpAny (model X.prog X.w) X.A (call f us) (EP X pins σ Q) X.xe s
noncomputable def TruR (X:Cx) (r:V->Hp->(Bool->Hp->Prop)->Prop):Prop:=
 ∀ (pins:List (Addr×Obj)) (s:Shared) (σ:St) (H:Hp) (x:V) (v:Value) (Q:Bool->Hp->Prop),Inv X pins σ H s->RelV x v->r x H Q->
   wpAny (model X.prog X.w) X.A (truthy v) (TP X pins σ Q) X.xe s
noncomputable def tOp (r:R2) (ta tb:TE):TE:=fun σ H Q=>ta σ H fun x H1=>tb σ H1 fun y H2=>r x y H2 Q
noncomputable def rI (C:Int->Int->Prop) (g:Int->Int->V):R2:=fun x y H Q=>∃ i j,x=.int i /\ y=.int j /\ C i j /\ Q (g i j) H
noncomputable def rI0 (g:Int->Int->V):R2:=fun x y H Q=>∃ i j,x=.int i /\ y=.int j /\ Q (g i j) H
section
variable {X:Cx} {a b c:Expr} {ta tb tc:TE} {pos:Pos}
theorem binT (ha:PE X a ta) (hb:PE X b tb) {pins:List (Addr×Obj)} {s:Shared} {σ:St} {H:Hp} {R:V->V->Hp->Prop} (I:Inv X pins σ H s)
  (h:ta σ H fun x H1=>tb σ H1 fun y H2=>R x y H2) {Q:Value->Shared->Prop} {f:Value->Value->Sem Value}
  (hf:∀ v u s2 x y H2,Inv X pins σ H2 s2->RelV x v->RelV y u->R x y H2->wpAny (model X.prog X.w) X.A (f v u) Q X.xe s2):
  wpAny (model X.prog X.w) X.A (eval a X.env) (fun v s₁=>wpAny (model X.prog X.w) X.A (eval b X.env) (fun u s₂=>wpAny (model X.prog X.w) X.A (f v u) Q X.xe s₂) X.xe s₁) X.xe s:=by
 refine thn (ha pins s σ H _ I h) fun v s1 ⟨x,H1,I1,r1,q1⟩=>?_
 refine thn (hb pins s1 σ H1 _ I1 q1) fun u s2 ⟨y,H2,I2,r2,q2⟩=>?_
 exact hf v u s2 x y H2 I2 r1 r2 q2
theorem zlN {op:Operator} {r:R2} (ho:OpR X (binaryOp op) r) (ha:PE X a ta) (hb:PE X b tb):PE X (.BinOp a op b pos) (tOp r ta tb):=by
 intro pins s σ H Q I h
 exact wpAny_BinOp (binT ha hb I h fun v u s2 x y H2 I2 rx ry q=>ho pins s2 σ H2 x y v u Q I2 rx ry q)
theorem opI {f:Value->Value->Sem Value} {C:Int->Int->Prop} {g:Int->Int->Int}
  (rule:∀ (i j:Int) (t u:Tok) (s:Shared) (Q:Value->Shared->Prop) (E:Value->Shared->Prop),C i j->Q (.int (g i j) s.toks) { s with toks:=s.toks + 1 }->wpAny (model X.prog X.w) X.A (f (.int i t) (.int j u)) Q E s):
  OpR X f (rI C fun i j=>.int (g i j)):=by
 intro pins s σ H x y v u Q I rx ry h
 obtain ⟨i,j,rfl,rfl,hc,q⟩:=h
 obtain ⟨t,rfl⟩:=rx
 obtain ⟨t',rfl⟩:=ry
 exact rule i j t t' s _ _ hc ⟨.int (g i j),H,I.tok _,⟨_,rfl⟩,q⟩
theorem opI0 {f:Value->Value->Sem Value} {g:Int->Int->Int}
  (rule:∀ (i j:Int) (t u:Tok) (s:Shared) (Q:Value->Shared->Prop) (E:Value->Shared->Prop),Q (.int (g i j) s.toks) { s with toks:=s.toks + 1 }->wpAny (model X.prog X.w) X.A (f (.int i t) (.int j u)) Q E s):
  OpR X f (rI0 fun i j=>.int (g i j)):=by
 intro pins s σ H x y v u Q I rx ry h
 obtain ⟨i,j,rfl,rfl,q⟩:=h
 obtain ⟨t,rfl⟩:=rx
 obtain ⟨t',rfl⟩:=ry
 exact rule i j t t' s _ _ ⟨.int (g i j),H,I.tok _,⟨_,rfl⟩,q⟩
theorem opB0 {f:Value->Value->Sem Value} {g:Int->Int->Bool}
  (rule:∀ (i j:Int) (t u:Tok) (s:Shared) (Q:Value->Shared->Prop) (E:Value->Shared->Prop),Q (.bool (g i j)) s->wpAny (model X.prog X.w) X.A (f (.int i t) (.int j u)) Q E s):
  OpR X f (rI0 fun i j=>.bl (g i j)):=by
 intro pins s σ H x y v u Q I rx ry h
 obtain ⟨i,j,rfl,rfl,q⟩:=h
 obtain ⟨t,rfl⟩:=rx
 obtain ⟨t',rfl⟩:=ry
 exact rule i j t t' s _ _ ⟨.bl (g i j),H,I,rfl,q⟩
noncomputable def CPow (i j:Int):Prop:=0<=j /\ j<=1000000 /\ i.natAbs < 2 ^ 64
theorem zlp:OpR X (binaryOp .Add) (rI0 fun i j=>.int (i + j)):=opI0 fun _ _ _ _ _ _ _ q=>add_int q
theorem zbq:OpR X (binaryOp .Sub) (rI0 fun i j=>.int (i - j)):=opI0 fun _ _ _ _ _ _ _ q=>sub_int q
theorem zaB:OpR X (binaryOp .Mod) (rI (fun _ j=>j≠0) fun i j=>.int (i.fmod j)):=opI fun _ _ _ _ _ _ _ hc q=>mod_int' hc q
theorem zlY:OpR X (binaryOp .Pow) (rI CPow fun i j=>.int (i ^ j.toNat)):=opI fun _ _ _ _ _ _ _ hc q=>pow_int_small hc.1 hc.2.1 hc.2.2 q
end
section
variable {X:Cx} {a b c:Expr} {ta tb tc:TE} {pos:Pos}
theorem zhV:OpR X (compareOp .Lt) (rI0 fun i j=>.bl (decide (i < j))):=opB0 fun _ _ _ _ _ _ _ q=>lt_int q
theorem zm0:OpR X (compareOp .LtE) (rI0 fun i j=>.bl (decide (i<=j))):=opB0 fun _ _ _ _ _ _ _ q=>le_int q
theorem zeh:OpR X (compareOp .Gt) (rI0 fun i j=>.bl (decide (j < i))):=opB0 fun _ _ _ _ _ _ _ q=>gt_int q
theorem zmL:OpR X (compareOp .GtE) (rI0 fun i j=>.bl (decide (j<=i))):=opB0 fun _ _ _ _ _ _ _ q=>ge_int q
theorem OpR.or {f:Value->Value->Sem Value} {r r':R2} (h:OpR X f r) (h':OpR X f r'):OpR X f (fun x y H Q=>r x y H Q \/ r' x y H Q):=by
 intro pins s σ H x y v u Q I rx ry q
 rcases q with q | q
 ·exact h pins s σ H x y v u Q I rx ry q
 ·exact h' pins s σ H x y v u Q I rx ry q
theorem nomark (b:Expr) {op:CmpOp} (h:op≠.In:=by decide) (h2:op≠.NotIn:=by decide):behindInMarks op b=false:=by
 have e1:(op == CmpOp.In)=false:=by cases op <;> first | rfl | exact absurd rfl h
 have e2:(op == CmpOp.NotIn)=false:=by cases op <;> first | rfl | exact absurd rfl h2
 cases b <;> simp [behindInMarks,e1,e2]
theorem zki {op:CmpOp} {r:R2} (ho:OpR X (compareOp op) r) (ha:PE X a ta) (hb:PE X b tb) (hm:behindInMarks op b=false):PE X (.Compare a [op] [b] pos) (tOp r ta tb):=by
 intro pins s σ H Q I h
 exact wpAny_Compare1 (binT ha hb I h fun v u s2 x y H2 I2 rx ry q=>ho pins s2 σ H2 x y v u Q I2 rx ry q) hm
noncomputable def tTest (t:TE):TT:=fun σ H Q=>t σ H fun x H'=>∃ k,x=.bl k /\ Q k H'
theorem zkf {op:CmpOp} {r:R2} (ho:OpR X (compareOp op) r) (ha:PE X a ta) (hb:PE X b tb) (hm:behindInMarks op b=false):PT X (.Compare a [op] [b] pos) (tTest (tOp r ta tb)):=by
 intro pins s σ H Q I h
 refine wpAny_isTrue_Compare1 (thn (ha pins s σ H _ I h) fun v s1 ⟨x,H1,I1,r1,q1⟩=>thn (hb pins s1 σ H1 _ I1 q1) fun u s2 ⟨y,H2,I2,r2,q2⟩=>
  thn (ho pins s2 σ H2 x y v u _ I2 r1 r2 q2) fun c s3 ⟨z,H3,I3,r3,k,e,q3⟩=>?_) hm
 subst e
 cases r3
 exact wpAny_truthy_bool ⟨H3,I3,q3⟩
noncomputable def tChain (r r':R2) (ta tb tc:TE):TE:=fun σ H Q=>ta σ H fun x H1=>tb σ H1 fun y H2=>r x y H2 fun z H3=>∃ k,z=.bl k /\
 (if k=true then tc σ H3 fun w' H4=>r' y w' H4 Q else Q (.bl false) H3)
theorem ziS {op op':CmpOp} {r r':R2} (ho:OpR X (compareOp op) r) (ho':OpR X (compareOp op') r') (ha:PE X a ta) (hb:PE X b tb) (hc:PE X c tc)
  (hm:lastMarks [op,op'] [b,c]=false:=by with_unfolding_all rfl):PE X (.Compare a [op,op'] [b,c] pos) (tChain r r' ta tb tc):=by
 intro pins s σ H Q I h
 refine Compare_chain (thn (ha pins s σ H _ I h) fun v s1 ⟨x,H1,I1,r1,q1⟩=>chain_link (thn (hb pins s1 σ H1 _ I1 q1) fun u s2 ⟨y,H2,I2,r2,q2⟩=>
  thn (ho pins s2 σ H2 x y v u _ I2 r1 r2 q2) fun d s3 ⟨z,H3,I3,r3,k,e,q3⟩=>?_)) hm
 subst e
 cases r3
 refine wpAny_truthy_bool ?_
 cases k with
 | false=>exact ite_ff ⟨.bl false,H3,I3,rfl,q3⟩
 | true=>exact ite_tt (chain_last (thn (hc pins s3 σ H3 _ I3 q3) fun w' s4 ⟨z',H4,I4,r4,q4⟩=>ho' pins s4 σ H4 y z' u w' Q I4 r2 r4 q4))
noncomputable def TruV (K:PySem.W.Frag) (x:V) (H:Hp) (k:Bool):Prop:=
 match x with
 | .non=>k=false
 | .bl b=>k=b
 | .int i=>k=(i != 0)
 | .str y=>y.length<=sizeLine /\ k=((y.length:Int) != 0)
 | .byt y=>y.size<=sizeLine /\ k=((y.size:Int) != 0)
 | .ref p=>(∃ xs,SqL K H p xs /\ k= !xs.isEmpty) \/ (∃ xs,SqT K H p xs /\ k= !xs.isEmpty) \/ ∃ kvs,H p=some (.dK kvs) /\ k= !kvs.isEmpty
 | _=>False
theorem zgm {κ:Type} {kvs:List (κ×V)} {vs:List (κ×Value)} (r:KV kvs vs):(!vs.isEmpty)= !kvs.isEmpty:=by
 cases r <;> rfl
theorem zdc {xs:List V} {its:List Value} (r:Vals xs its):(!its.toArray.isEmpty)= !xs.isEmpty:=by
 cases r <;> simp
theorem line63:(sizeLine:Nat) < 2 ^ 63:=by rw [sizeLine_eq]; decide
theorem zlm:TruR X (fun x H Q=>∃ k,TruV X.K x H k /\ Q k H):=by
 intro pins s σ H x v Q I rx h
 obtain ⟨k,e,q⟩:=h
 have hl:=line63
 have hs:sizeLine=16777216:=sizeLine_eq
 cases x with
 | non=>
   cases rx
   have e':k=false:=e
   subst e'
   exact truthy_none ⟨H,I,q⟩
 | bl b=>
   cases rx
   have e':k=b:=e
   subst e'
   exact wpAny_truthy_bool ⟨H,I,q⟩
 | int i=>
   obtain ⟨t,rfl⟩:=rx
   have e':k=(i != 0):=e
   subst e'
   exact PySem.P.truthy_int ⟨H,I,q⟩
 | str y=>
   obtain ⟨t,rfl⟩:=rx
   obtain ⟨hy,e'⟩:y.length<=sizeLine /\ k=((y.length:Int) != 0):=e
   subst e'
   exact PySem.P.truthy_str (by omega) ⟨H,I.tok _,q⟩
 | byt y=>
   obtain ⟨t,rfl⟩:=rx
   obtain ⟨hy,e'⟩:y.size<=sizeLine /\ k=((y.size:Int) != 0):=e
   subst e'
   exact PySem.W.truthy_bytes (by omega) ⟨H,I.tok _,q⟩
 | ref p=>
   cases rx
   have e':(∃ xs,SqL X.K H p xs /\ k= !xs.isEmpty) \/ (∃ xs,SqT X.K H p xs /\ k= !xs.isEmpty) \/ ∃ kvs,H p=some (.dK kvs) /\ k= !kvs.isEmpty:=e
   rcases e' with ⟨xs,hx,e'⟩ | ⟨xs,hx,e'⟩ | ⟨kvs,hx,e'⟩
   ·subst e'
    obtain ⟨its,r,pl,hz⟩:=I.list hx
    have hlen:=r.length
    exact wpAny_truthy_list pl.isList (by simp only [List.size_toArray]; omega) ⟨H,I.tok _,by rw [zdc r]; exact q⟩
   ·subst e'
    obtain ⟨its,r,pl,hz⟩:=I.tuple hx
    have hlen:=r.length
    exact truthy_tuple pl (by simp only [List.size_toArray]; omega) ⟨H,I.tok _,by rw [zdc r]; exact q⟩
   ·subst e'
    obtain ⟨hz,hS,vs,r,m⟩:kvs.length<=sizeLine /\ (p == sysModules)=false /\ ∃ vs,KV kvs vs /\ s.heap.DictOf (mixKind X.prog X.w) p vs:=I.hok p _ hx
    have hlen:kvs.length=vs.length:=Paired.length r
    exact wpAny_truthy_dict hS m (by omega) ⟨H,I.tok _,by rw [zgm r]; exact q⟩
 | _=>exact (show False from e).elim
theorem ziN (ha:PE X a ta) (he:∀ whole,isTrue a X.env whole=(do let v <- whole; standAt a.pos; holding [v] (truthy v))):
  PT X a (fun σ H Q=>ta σ H fun x H'=>∃ k,TruV X.K x H' k /\ Q k H'):=by
 intro pins s σ H Q I h
 exact isTrue_plain (thn (ha pins s σ H _ I h) fun v s1 ⟨x,H1,I1,r1,q1⟩=>zlm pins s1 σ H1 x v Q I1 r1 q1) (he _)
theorem zf8:OpR X (binaryOp .Add) (fun x y H Q=>∃ i j,x=.str i /\ y=.str j /\ i.length + j.length<=sizeLine /\ Q (.str (i ++ j)) H):=by
 intro pins s σ H x y v u Q I rx ry h
 obtain ⟨i,j,rfl,rfl,hz,q⟩:=h
 obtain ⟨t,rfl⟩:=rx
 obtain ⟨t',rfl⟩:=ry
 exact add_str (fun t' tk=>⟨.str (i ++ j),H,I.tok _,⟨_,rfl⟩,q⟩) hz
theorem vals1 {x:V} {us:List Value} (r:Vals [x] us):∃ u,us=[u] /\ RelV x u:=by
 cases r with
 | cons r1 r2=>cases r2; exact ⟨_,rfl,r1⟩
theorem vals2 {x y:V} {us:List Value} (r:Vals [x,y] us):∃ u w',us=[u,w'] /\ RelV x u /\ RelV y w':=by
 cases r with
 | cons r1 r2=>
   cases r2 with
   | cons r3 r4=>cases r4; exact ⟨_,_,rfl,r1,r3⟩
theorem zju:CallR X (.builtin "abs") (fun xs H Q=>∃ i,xs=[.int i] /\ Q (.int (if i < 0 then -i else i)) H):=by
 intro pins s σ H xs us Q I r h
 obtain ⟨i,rfl,q⟩:=h
 obtain ⟨u,rfl,t,rfl⟩:=vals1 r
 exact call_abs_int fun u tk=>⟨.int (if i < 0 then -i else i),H,I.tok _,⟨_,rfl⟩,q⟩
theorem zhw (hc:X.calm=true):CallR X (.builtin "max") (fun xs H Q=>∃ i j,xs=[.int i,.int j] /\ Q (.int (if j > i then j else i)) H):=by
 intro pins s σ H xs us Q I r h
 obtain ⟨i,j,rfl,q⟩:=h
 obtain ⟨u,w',rfl,⟨t,rfl⟩,⟨t',rfl⟩⟩:=vals2 r
 refine max_two_ints (I.ok.hd hc) fun h' tk k=>⟨_,H,I.kept k,?_,q⟩
 by_cases hj:j > i
 ·rw [if_pos hj,if_pos hj]; exact ⟨_,rfl⟩
 ·rw [if_neg hj,if_neg hj]; exact ⟨_,rfl⟩
theorem zg5:CallR X (.type "int") (fun xs H Q=>(∃ i,xs=[.int i] /\ Q (.int i) H) \/ ∃ k,xs=[.bl k] /\ Q (.int (if k then 1 else 0)) H):=by
 intro pins s σ H xs us Q I r h
 rcases h with ⟨i,rfl,q⟩ | ⟨k,rfl,q⟩
 ·obtain ⟨u,rfl,t,rfl⟩:=vals1 r
  exact call_int_int ⟨.int i,H,I,⟨_,rfl⟩,q⟩
 ·obtain ⟨u,rfl,r1⟩:=vals1 r
  cases r1
  exact call_int_bool ⟨.int (if k then 1 else 0),H,I.tok _,⟨_,rfl⟩,q⟩
end
end L2
namespace L2
open PySem PySem.Spec PyProof.Rows
structure ObjM (h:Heap) (x dx C:Addr) (mA:Str->Option Value):Prop where
 obj:h.get? x=some (PySem.W.instObj C dx)
 ns:h.Ns1 dx mA
 ne:dx≠x
set_option tactic.hygienic true in
theorem zg0 {h:Heap} {dx:Addr} {mA:Str->Option Value} (n:h.Ns1 dx mA):∃ od,h.get? dx=some od /\ ∀ name,PySem.W.lookIn name od=some (mA name):=by
 obtain ⟨o,es,ep,ho,hd,hk,_,hm⟩:=n
 refine ⟨o,ho,fun name=>?_⟩
 have e:=hm name
 unfold nsFind findBy at e
 rw [<- Array.find?_toList] at e
 unfold PySem.W.lookIn
 rw [hd]
 dsimp only
 split
 ·rename_i y q
  rw [q] at e
  exact congrArg some e
 ·rename_i q
  rw [q] at e
  have a:es.toList.any (·.refKey)=false:=by
   rw [List.any_eq_false]
   intro y hy
   obtain ⟨z,t,hkey⟩:=hk y (Array.mem_toList_iff.mp hy)
   simp [DictEntry.refKey,hkey]
  have a':¬ es.toList.any (·.refKey)=true:=by rw [a]; exact Bool.false_ne_true
  rw [if_neg a']
  exact congrArg some e
theorem ObjM.look {h:Heap} {x dx C:Addr} {mA:Str->Option Value} (I:ObjM h x dx C mA):∃ od,PySem.W.InstAt h x (PySem.W.instObj C dx) C (some od) /\ ∀ name,PySem.W.lookIn name od=some (mA name):=
 let ⟨od,ho,hl⟩:=zg0 I.ns
 ⟨od,⟨I.obj,rfl,rfl,ho⟩,hl⟩
section
variable {prog:Program} {w:World} {A:Around} {E:Value->Shared->Prop} {s:Shared} {K:PySem.W.Frag} {x dx C f:Addr} {mA:Str->Option Value} {name:Str} {v:Value}
end
theorem RelO.some_of {v:V} {o:Option Value} (r:RelO (some v) o):∃ u,o=some u /\ RelV v u:=by
 cases o with
 | none=>exact (show False from r).elim
 | some u=>exact ⟨u,rfl,r⟩
section
variable {P:Program} {w:World} {H H':Hp} {h h':Heap} {a C dx:Addr} {fs fs':List (Str×V)}
theorem zkn (hok:HOk P w H h) (e:H a=some (.ins C dx fs)):∃ mA,ObjM h a dx C mA /\ (∀ f,RelO (fs.lookup f) (mA f)) /\ PySem.Within mA (fs.map (·.1)) /\ fs.length<=1000 /\ H dx=some (.own a):=by
 obtain ⟨d,z,ne,ob,mA,n,r,q⟩:=(show ObjOk P w H h a (.ins C dx fs) from hok a _ e)
 exact ⟨mA,⟨ob,n,ne⟩,r,q,z,d⟩
end
structure Cls (K:PySem.W.Frag) (C:Addr):Prop where
 pg:PySem.W.plainGet K C Str.empty=true
 hd:PySem.W.hasDictIn K C=true
 po:PySem.W.plainOver K C=true
 sa:PySem.W.findIn K (.ref C) "__setattr__"=some (some (.builtin "object.__setattr__"))
theorem Cls.get {K:PySem.W.Frag} {C:Addr} (c:Cls K C) (f:Str):PySem.W.plainGet K C f=true:=c.pg
section
variable {X:Cx} {pins:List (Addr×Obj)} {σ:St} {H:Hp} {s:Shared} {a C dx:Addr} {fs:List (Str×V)} {f:Str} {v:V} {A:Around} {E:Value->Shared->Prop}
end
section
variable {X:Cx} {o e value:Expr} {f:Str} {pos pos' tpos:Pos} {ta tv:TE}
end
section
variable {X:Cx} {pins:List (Addr×Obj)} {σ:St} {H:Hp} {s:Shared} {A:Around} {E:Value->Shared->Prop} {Q:Value->Shared->Prop} {c:Value} {b:Bool}
inductive TyOf (K:PySem.W.Frag) (H:Hp):V->Value->Prop where
 | non:TyOf K H .non (.type "NoneType")
 | bl (x:Bool):TyOf K H (.bl x) (.type "bool")
 | int (i:Int):TyOf K H (.int i) (.type "int")
 | str (x:Str):TyOf K H (.str x) (.type "str")
 | flt (x:UInt64):TyOf K H (.flt x) (.type "float")
 | lst {a:Addr} {xs:List V} (e:H a=some (.lst xs)):TyOf K H (.ref a) (.type "list")
 | frz {a:Addr} {o:Obj} {xs:List V} (e:H a=some (.frz o (.lst xs))):TyOf K H (.ref a) (.type "list")
 | tup {a:Addr} {xs:List V} (e:H a=some (.tup xs)):TyOf K H (.ref a) (.type "tuple")
 | dK {a:Addr} {kvs:List (Key×V)} (e:H a=some (.dK kvs)):TyOf K H (.ref a) (.type "dict")
 | dT {a:Addr} {kvs:List (List Key×V)} (e:H a=some (.dT kvs)):TyOf K H (.ref a) (.type "dict")
 | ins {a C dx:Addr} {fs:List (Str×V)} (e:H a=some (.ins C dx fs)) (cl:Cls K C) (ha:PySem.W.findIn K (.ref C) "__class__"=some (some (.builtin "object.__class__")))
   (hn:PySem.W.specialIn K (.builtin "object.__class__") "__get__"=some (some (.builtin "getset_descriptor.__get__"))) (htk:PySem.W.takesIn K (.builtin "object.__class__")=some true)
   (hm:PySem.W.mroIn K C (.type "object")=some true):TyOf K H (.ref a) (.ref C)
theorem zhQ {x:V} {u t:Value} (I:Inv X pins σ H s) (rx:RelV x u) (ty:TyOf X.K H x t) (e:PySem.W.kitOne X.K t c=some b) (h:∀ tk,Q (.bool b) { s with toks:=tk }):
  wpAny (model X.prog X.w) A (call (.builtin "isinstance") [u,c]) Q E s:=by
 cases ty with
 | non=>cases (show u=Value.none from rx); exact PySem.W.kia_one PySem.W.kitx_none I.kIn True.intro e (fun z=>nomatch z) h
 | bl y=>cases (show u=Value.bool y from rx); exact PySem.W.kia_one PySem.W.kitx_bool I.kIn True.intro e (fun z=>nomatch z) h
 | int i=>obtain ⟨t,q⟩:=(show ∃ t,u=Value.int i t from rx); cases q; exact PySem.W.kia_one PySem.W.kitx_int I.kIn True.intro e (fun z=>nomatch z) h
 | str y=>obtain ⟨t,q⟩:=(show ∃ t,u=Value.str y t from rx); cases q; exact PySem.W.kia_one PySem.W.kitx_str I.kIn True.intro e (fun z=>nomatch z) h
 | flt y=>obtain ⟨t,q⟩:=(show ∃ t,u=Value.float y t from rx); cases q; exact PySem.W.kia_one PySem.W.kitx_float I.kIn True.intro e (fun z=>nomatch z) h
 | @lst a xs ea=>
   cases (show u=Value.ref a from rx)
   obtain ⟨_,_,n,_,h1⟩:=(show ObjOk X.prog X.w H s.heap a (.lst xs) from I.hok a _ ea)
   exact PySem.W.kia_one PySem.W.kitx_list I.kIn ⟨_,h1,rfl⟩ e (fun z=>nomatch z) h
 | @frz a ob xs ea=>
   cases (show u=Value.ref a from rx)
   obtain ⟨_,_,_,n,_,h1⟩:=(show ObjOk X.prog X.w H s.heap a (.frz ob (.lst xs)) from I.hok a _ ea)
   exact PySem.W.kia_one PySem.W.kitx_list I.kIn ⟨_,h1,rfl⟩ e (fun z=>nomatch z) h
 | @tup a xs ea=>
   cases (show u=Value.ref a from rx)
   obtain ⟨_,_,_,p⟩:=(show ObjOk X.prog X.w H s.heap a (.tup xs) from I.hok a _ ea)
   obtain ⟨o,h1,h2,_⟩:=p
   exact PySem.W.kia_one PySem.W.kitx_tuple I.kIn ⟨o,h1,h2⟩ e (fun z=>nomatch z) h
 | @dK a kvs ea=>
   cases (show u=Value.ref a from rx)
   obtain ⟨_,_,vs,_,p⟩:=(show ObjOk X.prog X.w H s.heap a (.dK kvs) from I.hok a _ ea)
   obtain ⟨o,es,ep,h1,h2,_⟩:=p
   exact PySem.W.kia_one PySem.W.kitx_dict I.kIn ⟨o,h1,h2.1⟩ e (fun z=>nomatch z) h
 | @dT a kvs ea=>
   cases (show u=Value.ref a from rx)
   obtain ⟨_,_,xs,_,o,es,ep,h1,h2,_⟩:=(show ObjOk X.prog X.w H s.heap a (.dT kvs) from I.hok a _ ea)
   exact PySem.W.kia_one PySem.W.kitx_dict I.kIn ⟨o,h1,h2.1⟩ e (fun z=>nomatch z) h
 | @ins a C dx fs ea cl ha hn htk hm=>
   cases (show u=Value.ref a from rx)
   obtain ⟨mA,O,_⟩:=zkn I.hok ea
   obtain ⟨od,J,_⟩:=O.look
   exact PySem.W.kia_one (PySem.W.kitx_own (cl.get _) cl.hd ha hn htk hm) I.kIn J e (fun z=>nomatch z) h
end
end L2
namespace L2
open PySem PySem.Spec PyProof.Rows
structure Room (k:Nat) (A:Around):Prop where
 hd:A.handled=none
 dp:A.depth + 3 * k + 5 < recursionLimit
 un:A.units + 16 * k + 200 < cLine
theorem Room.mono {j k:Nat} {A:Around} (r:Room k A) (h:j<=k):Room j A:=⟨r.hd,by have:=r.dp; omega,by have:=r.un; omega⟩
theorem Room.deeper {k:Nat} {A:Around} (r:Room (k + 1) A) (env:Env):Room k (A.deeper env):=
 ⟨r.hd,by have:=r.dp; show A.depth + 1 + 3 * k + 5 < _; omega,by have:=r.un; show A.units + 3 + 16 * k + 200 < _; omega⟩
theorem Room.depth {k:Nat} {A:Around} (r:Room k A):A.depth < recursionLimit:=by have:=r.dp; omega
theorem Room.units {k:Nat} {A:Around} (r:Room k A):A.units + 64 < cLine:=by have:=r.un; omega
noncomputable def tNil:TA:=fun _ H Q=>Q [] H
noncomputable def tCons (ta:TE) (tr:TA):TA:=fun σ H Q=>ta σ H fun x H1=>tr σ H1 fun xs H2=>Q (x :: xs) H2
section
variable {X:Cx} {e:Expr} {es:List Expr} {te:TE} {t:TA} {pos:Pos}
theorem zY:PA X [] tNil:=fun _ _ _ _ H Q I h=>Calls.spliced_nil ⟨[],H,I,.nil,h⟩
theorem zC (ha:PE X e te) (hr:PA X es t) (hs:starEach (e :: es) X.env=(false,eval e X.env) :: starEach es X.env:=by rfl):PA X (e :: es) (tCons te t):=by
 intro pos pins s σ H Q I h
 rw [hs]
 show wpAny _ _ (spliced ((false,eval e X.env) :: backTo pos (starEach es X.env))) _ _ s
 refine Calls.spliced_cons (thn (ha pins s σ H _ I h) fun u s1 ⟨x,H1,I1,r1,q1⟩=>?_)
 exact thn (hr pos pins s1 σ H1 _ I1 q1) fun us s2 ⟨xs,H2,I2,r2,q2⟩=>⟨x :: xs,H2,I2,.cons r1 r2,q2⟩
noncomputable def tTup (t:TA):TE:=fun σ H Q=>t σ H fun xs H1=>xs.length<=sizeLine /\ ∀ p,H1 p=none->Q (.ref p) (upd H1 p (.tup xs))
noncomputable def tLst (t:TA):TE:=fun σ H Q=>t σ H fun xs H1=>xs.length<=sizeLine /\ ∀ p,H1 p=none->Q (.ref p) (upd H1 p (.lst xs))
theorem zlu {x1} (h:PA X es t):PE X (.Tuple es x1 pos) (tTup t):=by
 intro pins s σ H Q I hq
 refine wpAny_Tuple_spliced (thn (h pos pins s σ H _ I hq) fun us s1 ⟨xs,H1,I1,r,z,q⟩=>⟨by rw [<- r.length]; exact z,?_⟩)
 have hf:H1 s1.heap.objs.size=none:=I1.hok.fresh (Nat.le_refl _)
 refine ⟨.ref s1.heap.objs.size,upd H1 s1.heap.objs.size (.tup xs),I1.laid (t':=s1.toks) (fun b u e=>Heap.get?_push_of_some _ e) (Nat.le_refl _) ?_,rfl,q _ hf⟩
 exact ⟨z,us,r,⟨_,Heap.get?_push_size _ rfl,rfl,_,rfl⟩⟩
theorem zmc (h:PA X es t):PE X (.List es pos) (tLst t):=by
 intro pins s σ H Q I hq
 refine wpAny_List_spliced (thn (h pos pins s σ H _ I hq) fun us s1 ⟨xs,H1,I1,r,z,q⟩=>⟨by rw [<- r.length]; exact z,?_⟩)
 have hf:H1 s1.heap.objs.size=none:=I1.hok.fresh (Nat.le_refl _)
 refine ⟨.ref s1.heap.objs.size,upd H1 s1.heap.objs.size (.lst xs),I1.laid (t':=s1.toks) (fun b u e=>Heap.get?_push_of_some _ e) (Nat.le_refl _) ?_,rfl,q _ hf⟩
 exact ⟨z,us,0,r,Heap.get?_push_size _ rfl⟩
end
noncomputable abbrev Sp:=List V->Hp->VK->XK->Prop
noncomputable abbrev CXT:=List Env->Hp->Shared->XK->Value->Shared->Prop
structure Env0 (P:Program) (w:World) (K:PySem.W.Frag) (mg:Str->Option Value) (base:Heap) (A:Around) (outer:List Env) (s:Shared) (H:Hp):Prop where
 frames:A.frames=some outer
 mod:Mod K mg base
 bs:∀ b o,base.get? b=some o->s.heap.get? b=some o /\ H b=none
 bsz:base.objs.size<=s.heap.objs.size
 funs:s.heap.FunFrames base outer
 frf:∀ b∈frs outer,H b=none
 hok:HOk P w H s.heap
 bare:AllBare s.gens
noncomputable def CE (outer:List Env) (P:Program) (w:World) (H:Hp) (s:Shared) (Q:VK) (u:Value) (s':Shared):Prop:=
 ∃ v H',s'.os=s.os /\ AllBare s'.gens /\ Un (frs outer) [] H H' s.heap s'.heap /\ HOk P w H' s'.heap /\ RelV v u /\ Q v H'
noncomputable def CR (CX:CXT) (outer:List Env) (P:Program) (w:World) (H:Hp) (s:Shared) (Q:VK) (E:XK) (r:Result) (s':Shared):Prop:=
 match r with
 | .ok (.ret u)=>CE outer P w H s Q u s'
 | .ok _=>False
 | .error e=>CX outer H s E e s'
structure FnOk (P:Program) (w:World) (K:PySem.W.Frag) (mg:Str->Option Value) (base:Heap) (CX:CXT) (k:Nat) (f:Addr) (fd:FuncData) (ps:List Str) (sp:Sp):Prop where
 len:∀ vs H Q E,sp vs H Q E->vs.length=ps.length
 run:∀ (A:Around) (outer:List Env) (s:Shared) (H:Hp) (args:Args) (us:List Value) (vs:List V) (Q:VK) (E:XK),Room k A->Env0 P w K mg base A outer s H->BindsTo s fd args (ps.zip us)->Vals vs us->sp vs H Q E->
  codeAny (model P w) A (.call (.ref f) args) (CR CX outer P w H s Q E) s
section
variable {X:Cx} {pins:List (Addr×Obj)} {σ:St} {H:Hp} {s s':Shared}
theorem Inv.env0 (I:Inv X pins σ H s):Env0 X.prog X.w X.K X.mg X.base X.A X.stack s H:=
 ⟨I.ok.frames,I.ok.mod,I.bs,Nat.le_trans I.ok.bsz I.sz,I.stack,I.stkFree,I.hok,I.bare⟩
theorem Inv.after {Q:VK} {u:Value} (I:Inv X pins σ H s) (h:CE X.stack X.prog X.w H s Q u s'):EP X pins σ Q u s':=by
 obtain ⟨v,H',os,bare,un,hok,r,q⟩:=h
 obtain ⟨hh,g,d,t,os'⟩:=s'
 obtain rfl:os'=s.os:=os
 exact ⟨v,H',I.call (h':=hh) (g':=g) (d':=d) (t':=t) (ch:=[]) un hok bare (fun b z=>absurd z (by simp)),r,q⟩
end
noncomputable def tCall (sp:Sp) (dvs:List V) (E:XK) (t:TA):TE:=fun σ H Q=>t σ H fun vs H1=>sp (vs ++ dvs) H1 Q E
noncomputable def Binds (K:PySem.W.Frag) (fd:FuncData) (ps:List Str) (ds:List Value):Prop:=
 ∀ (s:Shared) (us:List Value),K.In s.heap->(us ++ ds).length=ps.length->BindsTo s fd ⟨us,[]⟩ (ps.zip (us ++ ds))
theorem Binds.all {K:PySem.W.Frag} {fd:FuncData} {ps:List Str} (h:∀ us:List Value,us.length=ps.length->bindArgs fd ⟨us,[]⟩=pure (ps.zip us)):Binds K fd ps []:=fun s us _ hl=>by
 rw [List.append_nil] at hl ⊢
 exact .of_eq (h us hl)
noncomputable def Passes (CX:CXT) (X:Cx) (E:XK):Prop:=∀ (pins:List (Addr×Obj)) (σ:St) (H:Hp) (s:Shared) (e:Value) (s':Shared),Inv X pins σ H s->CX X.stack H s E e s'->X.xe e s'
section
variable {X:Cx} {CX:CXT} {k:Nat} {f C:Addr} {fd:FuncData} {ps:List Str} {sp:Sp} {dvs:List V} {ds:List Value} {E:XK} {x m:Str} {p pos apos:Pos} {e o:Expr} {es:List Expr} {ta:TE} {t:TA}
theorem zmi {pins:List (Addr×Obj)} {σ:St} {H:Hp} {s:Shared} {Q:VK} {us:List Value} {vs:List V} (F:FnOk X.prog X.w X.K X.mg X.base CX k f fd ps sp) (hr:Room k X.A) (hb:Binds X.K fd ps ds) (hd:Vals dvs ds) (hx:Passes CX X E)
  (I:Inv X pins σ H s) (r:Vals vs us) (h:sp (vs ++ dvs) H Q E):wpAny (model X.prog X.w) X.A (call (.ref f) us) (EP X pins σ Q) X.xe s:=by
 have r2:Vals (vs ++ dvs) (us ++ ds):=r.append hd
 have hl:(us ++ ds).length=ps.length:=by rw [<- r2.length]; exact F.len _ _ _ _ h
 refine wpAny_call (codeAny_mono (F.run X.A X.stack s H ⟨us,[]⟩ (us ++ ds) (vs ++ dvs) Q E hr I.env0 (hb s us I.kIn hl) r2 h) fun r s' hq=>?_)
 cases r with
 | error e=>exact hx pins σ H s e s' I hq
 | ok fl=>
   cases fl with
   | ret u=>exact I.after hq
   | next=>exact False.elim hq
   | brk=>exact False.elim hq
   | cont=>exact False.elim hq
theorem zgS (F:FnOk X.prog X.w X.K X.mg X.base CX k f fd ps sp) (hr:Room k X.A) (hg:Gl X x) (hm:X.mg x=some (.ref f)) (hk:PySem.W.keepIn X.K (.ref f)=true) (hb:Binds X.K fd ps ds) (hd:Vals dvs ds) (hx:Passes CX X E)
  (ha:PA X (e :: es) t) (hdb:(x == ("__debug__":Str))=false:=by decide) (he:starEach (e :: es) X.env=(false,eval e X.env) :: starEach es X.env:=by rfl) (hpl:(backTo pos (starEach es X.env)).any (·.1)=false:=by rfl):
  PE X (.Call (.Name x p) (e :: es) [] pos) (tCall sp dvs E t):=by
 intro pins s σ H Q I h
 refine wpAny_Call_Name_kw (zcG I hg hm ?_ hdb)
 refine PySem.W.callWith_K (h₀:=X.base) I.ok.mod.kin hk (thn (ha pos pins s σ H _ I h) fun us s1 ⟨vs,H1,I1,r,q⟩=>⟨I1.kIn,?_⟩) he hpl
 exact zmi F hr hb hd hx I1 r q
end
section
variable {X:Cx} {CX:CXT} {k:Nat} {f C:Addr} {fd:FuncData} {ps ks:List Str} {sp:Sp} {E:XK} {x m:Str} {p pos apos kpos:Pos} {e o:Expr} {es:List Expr} {kws:List Keyword} {te ta:TE} {t tk:TA} {nm:Option Str}
variable {g:List Value->List Value->List Value} {gV:List V->List V->List V}
end
structure FnScope (N P:List Str) (sc:Scope):Prop where
 kind:sc.kind=.function
 co:sc.isCoroutine=false
 gen:sc.isGenerator=false
 nd:N.Nodup
 pre:N.take P.length=P
 par:∀ x∈P,sc.names.lookup x=some .local \/ sc.names.lookup x=some .cell
 nofree:∀ y∈sc.names,y.2≠.free
theorem zey {kindOf:Str->Option NameKind} {x:Str}:∀ {binds:List (Str×Value)} {m:Str->Option Value},(∀ v,(x,v)∉binds)->bindL kindOf binds m x=m x
 | [],_,_=>rfl
 | (n,v) :: r,m,h=>by
   unfold bindL
   rw [zey fun w hw=>h w (List.mem_cons_of_mem _ hw)]
   split
   ·have:x≠n:=by rintro rfl; exact h v List.mem_cons_self
    simp [this]
   ·rfl
theorem zez {kindOf:Str->Option NameKind} {x:Str}:∀ {binds:List (Str×Value)} {m:Str->Option Value},(∀ v,(x,v)∉binds)->bindC kindOf binds m x=m x
 | [],_,_=>rfl
 | (n,v) :: r,m,h=>by
   unfold bindC
   rw [zez fun w hw=>h w (List.mem_cons_of_mem _ hw)]
   split
   ·rfl
   ·have:x≠n:=by rintro rfl; exact h v List.mem_cons_self
    simp [this]
theorem zef {kindOf:Str->Option NameKind} {x:Str} {v:Value}:∀ {P:List Str} {vs:List Value} {i:Nat} {m:Str->Option Value},P.Nodup->P[i]?=some x->vs[i]?=some v->kindOf x=some .local->
  bindL kindOf (P.zip vs) m x=some v
 | [],_,_,_,_,h,_,_=>by simp at h
 | _ :: _,[],_,_,_,_,h,_=>by simp at h
 | p :: P,w :: vs,0,m,nd,h1,h2,hk=>by
   simp at h1 h2; subst h1; subst h2
   show bindL kindOf ((p,w) :: P.zip vs) m p=_
   unfold bindL
   rw [zey fun v hv=>(List.nodup_cons.mp nd).1 (List.of_mem_zip hv).1,if_pos hk]
   simp
 | p :: P,w :: vs,i + 1,m,nd,h1,h2,hk=>by
   show bindL kindOf ((p,w) :: P.zip vs) m x=_
   unfold bindL
   exact zef (i:=i) (List.nodup_cons.mp nd).2 (by simpa using h1) (by simpa using h2) hk
theorem zei {kindOf:Str->Option NameKind} {x:Str} {v:Value}:∀ {P:List Str} {vs:List Value} {i:Nat} {m:Str->Option Value},P.Nodup->P[i]?=some x->vs[i]?=some v->kindOf x≠some .local->
  bindC kindOf (P.zip vs) m x=some v
 | [],_,_,_,_,h,_,_=>by simp at h
 | _ :: _,[],_,_,_,_,h,_=>by simp at h
 | p :: P,w :: vs,0,m,nd,h1,h2,hk=>by
   simp at h1 h2; subst h1; subst h2
   show bindC kindOf ((p,w) :: P.zip vs) m p=_
   unfold bindC
   rw [zez fun v hv=>(List.nodup_cons.mp nd).1 (List.of_mem_zip hv).1,if_neg hk]
   simp
 | p :: P,w :: vs,i + 1,m,nd,h1,h2,hk=>by
   show bindC kindOf ((p,w) :: P.zip vs) m x=_
   unfold bindC
   exact zei (i:=i) (List.nodup_cons.mp nd).2 (by simpa using h1) (by simpa using h2) hk
noncomputable def start (N:List Str) (vs:List V):St:=vs.map some ++ List.replicate (N.length - vs.length) none
noncomputable def cxOf (CX:CXT) (P:Program) (w:World) (K:PySem.W.Frag) (mg:Str->Option Value) (base:Heap) (N:List Str) (qual:Str) (scope:Scope) (f:Addr) (cd:Value) (A:Around) (outer:List Env) (s:Shared) (H:Hp) (E:XK):Cx where
 prog:=P
 w:=w
 K:=K
 mg:=mg
 base:=base
 A:=A.deeper (envOfC qual scope s.heap.objs.size f cd)
 N:=N
 s₀:=s
 H₀:=H
 env:=envOfC qual scope s.heap.objs.size f cd
 outer:=outer
 stack:=envOfC qual scope s.heap.objs.size f cd :: outer
 ex:=[]
 calm:=true
 fn:=fun _=>true
 pn:=[]
 xe:=fun e s'=>wpAny (model P w) (A.deeper (envOfC qual scope s.heap.objs.size f cd)) (leaving (envOfC qual scope s.heap.objs.size f cd) e) (fun _ s''=>CX outer H s E e s'') (fun e' s''=>CX outer H s E e' s'') s'
theorem zfv {sc:Scope} {n:Nat} {x:Str} (h:sc.names.lookup x=some .cell):∃ c,(cellsFrom n sc.names []).lookup x=some c:=by
 have q:=PySem.W.cellsFrom_some sc.names n [] (.inl h)
 exact Option.isSome_iff_exists.mp q
theorem zep {CX:CXT} {P:Program} {w:World} {K:PySem.W.Frag} {mg:Str->Option Value} {base:Heap} {N ps:List Str} {qual:Str} {scope:Scope} {f:Addr} {cd:Value} {A:Around} {outer:List Env} {s s1:Shared} {H:Hp} {E:XK} {us:List Value} {vs:List V}
  (S:FnScope N ps scope) (hd:A.handled=none) (e0:Env0 P w K mg base A outer s H) (hl:vs.length=ps.length) (r:Vals vs us)
  (x:InCallC s s.heap.objs.size (bindL (envOfC qual scope s.heap.objs.size f cd).kindOf (ps.zip us) fun _=>none) (cellsFrom (s.heap.objs.size + 1) scope.names []) (bindC (envOfC qual scope s.heap.objs.size f cd).kindOf (ps.zip us) fun _=>none) s1):
  Inv (cxOf CX P w K mg base N qual scope f cd A outer s H E) [] (start N vs) H s1:=by
 have hpl:ps.length<=N.length:=by have:=congrArg List.length S.pre; rw [List.length_take] at this; omega
 obtain ⟨h1,tk,rfl,hk⟩:=x.done
 have noA:∀ b:Addr,b∉(cxOf CX P w K mg base N qual scope f cd A outer s H E).ex:=fun b z=>absurd (show b∈([]:List Addr) from z) (by simp)
 refine ⟨⟨e0.mod,S.kind,rfl,rfl,Nat.le_refl _,fun y z c h1 h2=>?_,fun y hy=>?_,fun y c _ h=>?_,fun _=>hd,Around.frames_deeper e0.frames,.inr ⟨rfl,rfl⟩,fun b z=>absurd z (noA b),e0.bs,e0.bsz,fun b _ _=>noA b,fun b z=>absurd z (noA b),e0.funs,e0.frf⟩,
  rfl,e0.bare,Un.kept hk,⟨_,x.toInCall.ns,fun i y v h1 h2 h3=>?_⟩,fun y c h=>⟨_,x.cell y c h⟩,e0.hok.fresh (Nat.le_refl _),fun y c h=>?_,fun p hp=>absurd (show p∈([]:List (Addr×Obj)) from hp) (by simp),e0.hok.kept hk,?_⟩
 ·exact name_of_addr x.apart (PySem.mem_of_lookup h1) (PySem.mem_of_lookup h2)
 ·have hy:scope.names.lookup y=some .cell \/ scope.names.lookup y=some .free:=hy
  rcases hy with hy | hy
  ·exact zfv hy
  ·exact absurd rfl (S.nofree _ (PySem.mem_of_lookup hy))
 ·exact Nat.le_of_lt (x.above y c (PySem.mem_of_lookup h))
 ·have hi:i < vs.length:=by
   unfold start at h2
   by_cases hi:i < vs.length
   ·exact hi
   ·rw [List.getElem?_append_right (by simpa using hi)] at h2
    rw [List.getElem?_replicate] at h2
    split at h2 <;> cases h2
  have ha:vs[i]?=some v:=by
   unfold start at h2
   rw [List.getElem?_append_left (by simpa using hi),List.getElem?_map] at h2
   cases e:vs[i]? with
   | none=>rw [e] at h2; cases h2
   | some a=>rw [e] at h2; cases h2; rfl
  obtain ⟨u,hu,rv⟩:=r.get ha
  have hp:ps[i]?=some y:=by
   rw [<- S.pre,List.getElem?_take_of_lt (by omega)]; exact h1
  have ndP:ps.Nodup:=by rw [<- S.pre]; exact S.nd.sublist (List.take_sublist _ _)
  refine ⟨u,rv,?_⟩
  rcases S.par y (List.mem_of_getElem? hp) with k | k
  ·exact .inl ⟨k,zef ndP hp hu k⟩
  ·obtain ⟨c,e⟩:=zfv (n:=s.heap.objs.size + 1) k
   refine .inr ⟨.inl k,c,e,?_⟩
   have q:=x.cell y c e
   rw [zei ndP hp hu (by show scope.names.lookup y≠_; rw [k]; decide)] at q
   exact q
 ·exact e0.hok.fresh (Nat.le_of_lt (x.above y c (PySem.mem_of_lookup h)))
 ·unfold start
  show _=N.length
  rw [List.length_append,List.length_map,List.length_replicate]
  omega
theorem zlC {CX:CXT} {P:Program} {w:World} {K:PySem.W.Frag} {mg:Str->Option Value} {base:Heap} {k:Nat} {f:Addr} {name qual:Str} {params:Arguments} {body:List Stmt} {scope:Scope} {dV kV doc pm cdv ct oc:Value} {an od:Option Addr}
  {osl:Array (Option Value)} {N ps:List Str} {sp:Sp} (lk:K.lookup f=some ⟨oc,od,.func (PySem.W.fnOf name qual params body scope dV kV doc pm an cdv ct),osl⟩) (hcd:PySem.W.codeIn K cdv qual=true) (S:FnScope N ps scope)
  (len:∀ vs H Q E,sp vs H Q E->vs.length=ps.length)
  (hbody:∀ (A:Around) (outer:List Env) (s:Shared) (H:Hp) (vs:List V) (Q:VK) (E:XK),Room k (A.deeper (envOfC qual scope s.heap.objs.size f cdv))->sp vs H Q E->
   ∃ t,PSs (cxOf CX P w K mg base N qual scope f cdv A outer s H E) body t /\ t { nx:=fun _ H'=>Q .non H',rt:=Q } (start N vs) H):
  FnOk P w K mg base CX (k + 1) f (PySem.W.fnOf name qual params body scope dV kV doc pm an cdv ct) ps sp:=by
 refine ⟨len,fun A outer s H args us vs Q E hr e0 hb r hsp=>?_⟩
 have hl:=len _ _ _ _ hsp
 have KX:K.In s.heap:=e0.mod.kin.keeps fun b o e=>(e0.bs b o e).1
 have lim:s.heap.NoLimit:=e0.mod.nolimit.keeps fun b o e=>(e0.bs b o e).1
 have hkind:∀ y∈ps.zip us,scope.names.lookup y.1=some .local \/ (scope.names.lookup y.1=some .cell /\ ((cellsFrom (s.heap.objs.size + 1) scope.names []).lookup y.1).isSome=true):=fun ⟨n,v⟩ hy=>by
  rcases S.par n (List.of_mem_zip hy).1 with q | q
  ·exact .inl q
  ·exact .inr ⟨q,PySem.W.cellsFrom_some _ _ _ (.inl q)⟩
 refine codeAny_call_function hr.depth (KX _ _ lk) rfl S.co S.gen rfl (PySem.W.codeRec_of KX hcd) (hb _ _ _ _ ?_)
 refine wpAny_newFunctionEnv_cells S.kind hkind fun env he s1 x=>?_
 subst he
 refine ⟨lim.keeps x.toInCall.keep,codeAny_func ?_⟩
 obtain ⟨t,ht,hq⟩:=hbody A outer s H vs Q E (hr.deeper _) hsp
 have I:Inv (cxOf CX P w K mg base N qual scope f cdv A outer s H E) [] (start N vs) H s1:=zep S hr.hd e0 hl r x
 refine wpAny_mono (ht [] s1 (start N vs) H _ I hq) (fun fl s' hs=>?_) fun e s' hs=>hs
 have fin:∀ {σ':St} {H':Hp} {v:V} {u:Value},Inv (cxOf CX P w K mg base N qual scope f cdv A outer s H E) [] σ' H' s'->RelV v u->Q v H'->CE outer P w H s Q u s':=
  fun {σ' H' v u} J rv q=>⟨v,H',J.os,J.bare,J.base,J.hok,rv,q⟩
 cases fl with
 | ret u=>
   obtain ⟨v,σ',H',J,rv,q⟩:=hs
   exact fin J rv q
 | next=>
   obtain ⟨σ',H',J,q⟩:=hs
   exact fin (v:=V.non) (u:=Value.none) J rfl q
 | brk=>
   obtain ⟨_,_,_,q⟩:=hs
   exact False.elim q
 | cont=>
   obtain ⟨_,_,_,q⟩:=hs
   exact False.elim q
end L2
namespace L2
open PySem PySem.Spec PyProof.Rows
section
variable {X:Cx} {x:Str} {p pos:Pos} {e:Expr} {es:List Expr} {t:TA} {id T:String} {r:List V->Hp->VK->Prop}
noncomputable def tCB (r:List V->Hp->VK->Prop) (t:TA):TE:=fun σ H Q=>t σ H fun vs H1=>r vs H1 Q
theorem zcn (hc:CallR X (.builtin id) r) (hg:Gl X x) (hm:X.mg x=none) (hv:bootBuiltins x=some (.builtin id)) (ha:PA X (e :: es) t) (hn:x≠"__name__":=by decide) (hdb:(x == ("__debug__":Str))=false:=by decide)
  (he:starEach (e :: es) X.env=(false,eval e X.env) :: starEach es X.env:=by rfl) (hpl:(backTo pos (starEach es X.env)).any (·.1)=false:=by rfl):PE X (.Call (.Name x p) (e :: es) [] pos) (tCB r t):=by
 intro pins s σ H Q I h
 refine wpAny_Call_Name_kw (zbM I hg hm hv ?_ hn hdb)
 exact PyProof.Rows.callWith_builtin1 (thn (ha pos pins s σ H _ I h) fun us s1 ⟨vs,H1,I1,r1,q1⟩=>hc pins s1 σ H1 vs us Q I1 r1 q1) he hpl
theorem zcv (hc:CallR X (.type T) r) (hg:Gl X x) (hm:X.mg x=none) (hv:bootBuiltins x=some (.type T)) (ha:PA X (e :: es) t) (hn:x≠"__name__":=by decide) (hdb:(x == ("__debug__":Str))=false:=by decide)
  (he:starEach (e :: es) X.env=(false,eval e X.env) :: starEach es X.env:=by rfl) (hpl:(backTo pos (starEach es X.env)).any (·.1)=false:=by rfl):PE X (.Call (.Name x p) (e :: es) [] pos) (tCB r t):=by
 intro pins s σ H Q I h
 refine wpAny_Call_Name_kw (zbM I hg hm hv ?_ hn hdb)
 exact PyProof.Rows.callWith_type1 (thn (ha pos pins s σ H _ I h) fun us s1 ⟨vs,H1,I1,r1,q1⟩=>hc pins s1 σ H1 vs us Q I1 r1 q1) he hpl
end
end L2
namespace HT
open PySem PyProof.Rows
section
open PySem.SeqAt
open PySem.AutoSeq1 (wpAny_loadPart')
open PySem.MeetsSeq PySem.MeetsSeq2 PySem.MeetsSeq3
end
section
variable {prog:Program} {w:World} {A:Around} {E:Value->Shared->Prop} {s:Shared}
theorem zkh {t b:Addr} {vs ws:List Value} {Q:Value->Shared->Prop} (ht:IsTup s.heap t vs.toArray) (hb:IsTup s.heap b ws.toArray) (hv:vs≠[])
  (h1:ws=[]->Q (.ref t) s) (h2:ws≠[]->Q (.ref s.heap.objs.size) { s with heap:=s.heap.push { cls:=.type "tuple",data:=.seq (vs ++ ws).toArray } })
  (hsz:vs.length + ws.length<=sizeLine):wpAny (model prog w) A (binaryOp .Add (.ref t) (.ref b)) Q E s:=by
 obtain ⟨⟨cls,dd,data,sl⟩,ho,hc,n,hd⟩:=id ht
 obtain ⟨⟨cls2,dd2,data2,sl2⟩,ho2,hc2,n2,hd2⟩:=id hb
 simp only at hc hd hc2 hd2
 subst hc hd hc2 hd2
 have e:vs.toArray ++ ws.toArray=(vs ++ ws).toArray:=by simp
 by_cases hw:ws=[]
 ·exact concat_meets ⟨_,ho,rfl⟩ ⟨_,ho2,rfl⟩ noFill_tuple_add seq_tuple_add PySem.F.slot_tuple_add PySem.F.entry_tuple_add (PySem.F.args_tuple_add_2 _ _)
   (tuple_addW1 t b vs.toArray ws.toArray n n2 dd dd2 sl sl2 (by simpa using hv) (by simp [hw])) ⟨ho,ho2,h1 hw⟩
 ·refine concat_meets ⟨_,ho,rfl⟩ ⟨_,ho2,rfl⟩ noFill_tuple_add seq_tuple_add PySem.F.slot_tuple_add PySem.F.entry_tuple_add (PySem.F.args_tuple_add_2 _ _)
   (tuple_addW2 t b vs.toArray ws.toArray n n2 dd dd2 sl sl2 (by simpa using hv) (by simpa using hw) (by rw [List.size_toArray,List.size_toArray]; exact hsz)) ⟨ho,ho2,?_⟩
  rw [e]
  exact h2 hw
noncomputable def sIx (n d:Nat):Option Int->Nat
 | none=>d
 | some v=>if v < 0 then (v + (n:Int)).toNat else min v.toNat n
end
end HT
namespace L2
open PySem PySem.Spec PyProof.Rows
noncomputable abbrev TO:=St->Hp->(Option Int->Hp->Prop)->Prop
noncomputable def PO (X:Cx) (e:Option Expr) (t:TO):Prop:=
 ∀ (pins:List (Addr×Obj)) (s:Shared) (σ:St) (H:Hp) (Q:Option Int->Hp->Prop),Inv X pins σ H s->t σ H Q->
   wpAny (model X.prog X.w) X.A (evalPart e X.env) (fun u s'=>∃ o H',Inv X pins σ H' s' /\ IsPart u o /\ Q o H') X.xe s
noncomputable def tPart (t:TE):TO:=fun σ H Q=>t σ H fun x H1=>∃ i,x=.int i /\ Q (some i) H1
theorem zdk {ns:List Int}:∀ {us:List Value},Vals (ns.map V.int) us->IntsAre us ns:=by
 induction ns with
 | nil=>intro us r; rw [List.map_nil] at r; cases r; exact .nil
 | cons n ns ih=>
   intro us r
   rw [List.map_cons] at r
   cases r with
   | cons r1 r2=>
     obtain ⟨t,e⟩:=r1
     subst e
     exact .cons n t (ih r2)
section
variable {X:Cx} {e:Expr} {te:TE} {lo hi:Option Expr} {tl th:TO} {pos p2:Pos}
theorem zk3 (h:PE X e te):PO X (some e) (tPart te):=by
 intro pins s σ H Q I hw
 rw [evalPart_some]
 refine thn (h pins s σ H _ I hw) fun u s1 ⟨x,H1,I1,r1,q1⟩=>?_
 obtain ⟨i,rfl,q⟩:=q1
 obtain ⟨t,rfl⟩:=r1
 exact ⟨some i,H1,I1,.int i t,q⟩
noncomputable def SlR (X:Cx) (r:V->Option Int->Option Int->Hp->VK->Prop):Prop:=
 ∀ (pins:List (Addr×Obj)) (s:Shared) (σ:St) (H:Hp) (x:V) (v vl vu:Value) (lo hi:Option Int) (sl:Addr) (Q:VK),Inv X pins σ H s->RelV x v->s.heap.IsSliceOf sl vl vu .none->IsPart vl lo->IsPart vu hi->r x lo hi H Q->
   ∃ T id,typeLookup (.type T) "__getitem__"=pure (some (.builtin id)) /\ s.TypeIs v T /\ wpAny (model X.prog X.w) X.A (getItem v (.ref sl)) (EP X pins σ Q) X.xe s
noncomputable def tSl (r:V->Option Int->Option Int->Hp->VK->Prop) (te:TE) (tl th:TO):TE:=fun σ H Q=>te σ H fun x H1=>tl σ H1 fun l H2=>th σ H2 fun u H3=>r x l u H3 Q
theorem zjv {r:V->Option Int->Option Int->Hp->VK->Prop} (hr:SlR X r) (he:PE X e te) (hl:PO X lo tl) (hu:PO X hi th):PE X (.Subscript e (.Slice lo hi none p2) pos) (tSl r te tl th):=by
 intro pins s σ H Q I h
 refine Subscript_ (thn (he pins s σ H _ I h) fun v s1 ⟨x,H1,I1,r1,q1⟩=>?_)
 refine wpAny_Slice (thn (hl pins s1 σ H1 _ I1 q1) fun vl s2 ⟨l,H2,I2,pl,q2⟩=>thn (hu pins s2 σ H2 _ I2 q2) fun vu s3 ⟨u,H3,I3,pu,q3⟩=>?_)
 rw [evalPart_none]
 refine wpAny_pure ?_
 have I4:Inv X pins σ H3 { s3 with heap:=s3.heap.push { cls:=.type "slice",data:=.fields #[vl,vu,.none] } }:=I3.kept (t':=s3.toks) fun b ob q=>Heap.get?_push_of_some _ q
 obtain ⟨T,id,hT,ht,hg⟩:=hr pins { s3 with heap:=s3.heap.push { cls:=.type "slice",data:=.fields #[vl,vu,.none] } } σ H3 x v vl vu l u s3.heap.objs.size Q I4 r1 (Heap.IsSliceOf.new ..) pl pu q3
 show wpAny (model X.prog X.w) X.A (subscriptTail e (.Slice lo hi none p2) v (.ref s3.heap.objs.size)) (EP X pins σ Q) X.xe { s3 with heap:=s3.heap.push { cls:=.type "slice",data:=.fields #[vl,vu,.none] } }
 exact tail_any (ops:=[.ref s3.heap.objs.size,v]) ht hT hg (by with_unfolding_all rfl)
noncomputable def cutV (xs:List V) (lo hi:Option Int):List V:=(xs.drop (HT.sIx xs.length 0 lo)).take (HT.sIx xs.length xs.length hi - HT.sIx xs.length 0 lo)
theorem zeH (xs:List V) (lo hi:Option Int):(cutV xs lo hi).length<=xs.length:=by
 unfold cutV
 rw [List.length_take,List.length_drop]
 omega
noncomputable def rCatT (K:PySem.W.Frag):R2:=fun x y H Q=>∃ a b xs ys,x=.ref a /\ y=.ref b /\ SqT K H a xs /\ SqT K H b ys /\ xs≠[] /\ xs.length + ys.length<=sizeLine /\
 (ys=[]->Q (.ref a) H) /\ (ys≠[]->∀ p,H p=none->Q (.ref p) (upd H p (.tup (xs ++ ys))))
theorem Vals.nil_iff {xs:List V} {us:List Value} (r:Vals xs us):us=[]↔xs=[]:=by
 cases r with
 | nil=>simp
 | cons _ _=>simp
theorem zkN:OpR X (binaryOp .Add) (rCatT X.K):=by
 intro pins s σ H x y v u Q I rx ry h
 obtain ⟨a,b,xs,ys,rfl,rfl,ha,hb,hx,hz,q1,q2⟩:=h
 cases rx
 cases ry
 obtain ⟨its,r1,p1,_⟩:=I.tuple ha
 obtain ⟨its2,r2,p2,_⟩:=I.tuple hb
 refine HT.zkh p1 p2 (fun z=>hx (r1.nil_iff.mp z)) (fun z=>⟨.ref a,H,I,rfl,q1 (r2.nil_iff.mp z)⟩) (fun z=>?_) (by rw [<- r1.length,<- r2.length]; exact hz)
 refine ⟨.ref s.heap.objs.size,_,I.laid (t':=s.toks) (o:=.tup (xs ++ ys)) (fun b ob q=>Heap.get?_push_of_some _ q) (Nat.le_refl _) ?_,rfl,q2 (fun w=>z (r2.nil_iff.mpr w)) _ (I.hok.fresh (Nat.le_refl _))⟩
 exact ⟨by rw [List.length_append]; exact hz,_,r1.append r2,IsTup.new _ _⟩
end
end L2
namespace L2
open PySem PySem.Spec PyProof.Rows
noncomputable def ixN (n:Nat) (i:Int):Option Nat:=if 0<=i then (if i < n then some i.toNat else none) else if -(n:Int)<=i then some (i + n).toNat else none
noncomputable def atI {α:Type} (xs:List α) (i:Int):Option α:=(ixN xs.length i).bind fun j=>xs[j]?
theorem zkt {n:Nat} {i:Int} {j:Nat} (h:ixN n i=some j):seqIndex? i n=some j /\ j < n /\ -(n:Int)<=i /\ i < n:=by
 unfold ixN at h
 by_cases h0:0<=i
 ·rw [if_pos h0] at h
  by_cases h1:i < n
  ·rw [if_pos h1] at h
   have e:i.toNat=j:=Option.some.inj h
   exact ⟨by rw [seqIndex_of h0 h1,e],by omega,by omega,h1⟩
  ·rw [if_neg h1] at h; cases h
 ·rw [if_neg h0] at h
  by_cases h1: -(n:Int)<=i
  ·rw [if_pos h1] at h
   have e:(i + n).toNat=j:=Option.some.inj h
   exact ⟨by rw [seqIndex_neg (by omega) h1,e],by omega,h1,by omega⟩
  ·rw [if_neg h1] at h; cases h
theorem zeQ {α:Type} {xs:List α} {i:Int} {v:α} (h:atI xs i=some v):∃ j,seqIndex? i xs.length=some j /\ xs[j]?=some v /\ j < xs.length /\ -(xs.length:Int)<=i /\ i < xs.length:=by
 unfold atI at h
 cases e:ixN xs.length i with
 | none=>rw [e] at h; cases h
 | some j=>
   rw [e] at h
   obtain ⟨h1,h2,h3,h4⟩:=zkt e
   exact ⟨j,h1,h,h2,h3,h4⟩
theorem zcQ {α:Type} {xs:List α} {j:Nat} {v:α} (h:xs[j]?=some v):atI xs (j:Int)=some v:=by
 have hj:j < xs.length:=(List.getElem?_eq_some_iff.mp h).1
 have e:ixN xs.length (j:Int)=some j:=by
  unfold ixN
  rw [if_pos (by omega),if_pos (by omega)]; simp
 unfold atI; rw [e]; exact h
noncomputable def PlainIx (b:Expr):Prop:=∀ o i,subscripted b false o i=operate [o,i] (getItem o i)
noncomputable def IxR (X:Cx) (r:R2):Prop:=
 ∀ (value slice:Expr) (pins:List (Addr×Obj)) (s:Shared) (σ:St) (H:Hp) (x y:V) (v u:Value) (Q:VK),Inv X pins σ H s->RelV x v->RelV y u->r x y H Q->
   subscripted slice false v u=operate [v,u] (getItem v u)->wpAny (model X.prog X.w) X.A (subscriptTail value slice v u) (EP X pins σ Q) X.xe s
noncomputable def MtR (X:Cx) (id:String) (r:V->List V->Hp->VK->Prop):Prop:=
 ∀ (pins:List (Addr×Obj)) (s:Shared) (σ:St) (H:Hp) (x:V) (xs:List V) (v:Value) (us:List Value) (Q:VK),Inv X pins σ H s->RelV x v->Vals xs us->r x xs H Q->
   wpAny (model X.prog X.w) X.A (call (.builtin id) (v :: us)) (EP X pins σ Q) X.xe s
section
variable {X:Cx} {a b:Expr} {ta tb:TE} {pos:Pos}
theorem IxR.or {r r':R2} (h:IxR X r) (h':IxR X r'):IxR X (fun x y H Q=>r x y H Q \/ r' x y H Q):=by
 intro value slice pins s σ H x y v u Q I rx ry q hs
 rcases q with q | q
 ·exact h value slice pins s σ H x y v u Q I rx ry q hs
 ·exact h' value slice pins s σ H x y v u Q I rx ry q hs
theorem zmW {r:R2} (hr:IxR X r) (ha:PE X a ta) (hb:PE X b tb) (hs:PlainIx b):PE X (.Subscript a b pos) (tOp r ta tb):=by
 intro pins s σ H Q I h
 exact Subscript_ (binT ha hb I h fun v u s2 x y H2 I2 rx ry q=>hr a b pins s2 σ H2 x y v u Q I2 rx ry q (hs _ _))
noncomputable def rIxL (K:PySem.W.Frag):R2:=fun x y H Q=>∃ p xs i v,x=.ref p /\ y=.int i /\ SqL K H p xs /\ atI xs i=some v /\ Q v H
noncomputable def rIxT (K:PySem.W.Frag):R2:=fun x y H Q=>∃ p xs i v,x=.ref p /\ y=.int i /\ SqT K H p xs /\ atI xs i=some v /\ Q v H
noncomputable def rIxS:R2:=fun x y H Q=>∃ z i c,x=.str z /\ y=.int i /\ z.length<=sizeLine /\ atI z.cps.toList i=some c /\ Q (.str ⟨#[c]⟩) H
theorem zk1:IxR X (rIxL X.K):=by
 intro value slice pins s σ H x y v u Q I rx ry h hs
 obtain ⟨p,xs,i,z,rfl,rfl,hq,he,q⟩:=h
 cases rx
 obtain ⟨t,rfl⟩:=ry
 obtain ⟨its,r,pl,hz⟩:=I.list hq
 obtain ⟨j,h1,h2,h3,h4,h5⟩:=zeQ he
 obtain ⟨w,ew,rw'⟩:=r.get h2
 have hl:=r.length
 have hn:=line63
 have fin:EP X pins σ Q w s:=⟨z,H,I,rw',q⟩
 by_cases h0:0<=i
 ·have hj:i.toNat=j:=by
   rw [seqIndex_of h0 h5] at h1
   exact Option.some.inj h1
  exact item_listR pl.isList h0 (by omega) (by rw [hj]; simpa using ew) fin hs
 ·have hj:(i + (its.toArray.size:Int)).toNat=j:=by
   rw [seqIndex_neg (by omega) h4] at h1
   rw [List.size_toArray,<- hl]
   exact Option.some.inj h1
  exact subscriptTail_builtinR (x:=w) pl.isList.typeIs slot_list_getitem.lookup
   (wpAny_getItem_list_neg (Q:=fun r s'=>r=w /\ EP X pins σ Q r s') pl.isList (by omega) (by rw [List.size_toArray] <;> omega) (by omega) (by rw [hj]; simpa using ew) ⟨rfl,fin⟩) hs
theorem zls:IxR X (rIxT X.K):=by
 intro value slice pins s σ H x y v u Q I rx ry h hs
 obtain ⟨p,xs,i,z,rfl,rfl,hq,he,q⟩:=h
 cases rx
 obtain ⟨t,rfl⟩:=ry
 obtain ⟨its,r,pl,hz⟩:=I.tuple hq
 obtain ⟨j,h1,h2,h3,h4,h5⟩:=zeQ he
 obtain ⟨w,ew,rw'⟩:=r.get h2
 have hl:=r.length
 have hn:=line63
 have fin:EP X pins σ Q w s:=⟨z,H,I,rw',q⟩
 exact subscriptTail_builtinR (x:=w) pl.typeIs slot_tuple_getitem.lookup
  (getItem_tuple (j:=j) (Q:=fun r s'=>r=w /\ EP X pins σ Q r s') pl (by omega) (by omega) (by rw [List.size_toArray,<- hl]; exact h1) (by simpa using ew) ⟨rfl,fin⟩) hs
theorem zlO:IxR X rIxS:=by
 intro value slice pins s σ H x y v u Q I rx ry h hs
 obtain ⟨z,i,c,rfl,rfl,hz,he,q⟩:=h
 obtain ⟨t,rfl⟩:=rx
 obtain ⟨t',rfl⟩:=ry
 obtain ⟨j,h1,h2,h3,h4,h5⟩:=zeQ he
 have hl:z.cps.toList.length=z.length:=by simp [Str.length]
 rw [hl] at h1 h4 h5
 have hn:=line63
 exact tail_any (typeIs_str s z t) slot_str_getitem.lookup (getItem_str (c:=c) (by
  have e1:decide (i < -(2 ^ 63:Int))=false:=decide_eq_false (by omega)
  have e2:decide (i >=2 ^ 63)=false:=decide_eq_false (by omega)
  rw [e1,e2,Bool.or_false]) (by rw [h1]; simpa using h2) ⟨.str ⟨#[c]⟩,H,I.tok _,⟨_,rfl⟩,q⟩) hs
noncomputable def rIx (K:PySem.W.Frag):R2:=fun x y H Q=>rIxL K x y H Q \/ rIxT K x y H Q \/ rIxS x y H Q
theorem zl8:IxR X (rIx X.K):=zk1.or (zls.or zlO)
theorem zdZ (lo hi:Option Int) (n:Nat):(sliceBounds lo hi none n).1=((HT.sIx n 0 lo:Nat):Int) /\ (sliceBounds lo hi none n).2.1=((HT.sIx n n hi:Nat):Int) /\ (sliceBounds lo hi none n).2.2=1:=by
 refine ⟨?_,?_,rfl⟩
 ·cases lo with
  | none=>simp [sliceBounds,HT.sIx]
  | some i=>
    simp only [sliceBounds,HT.sIx,Option.getD_none,show (1:Int) > 0 by decide,if_true]
    by_cases h:i < 0
    ·simp only [h,if_true] <;> omega
    ·simp only [h,if_false] <;> omega
 ·cases hi with
  | none=>simp [sliceBounds,HT.sIx]
  | some i=>
    simp only [sliceBounds,HT.sIx,Option.getD_none,show (1:Int) > 0 by decide,if_true]
    by_cases h:i < 0
    ·simp only [h,if_true] <;> omega
    ·simp only [h,if_false] <;> omega
theorem zdp (its:List Value) (lo hi:Option Int):slicePick its.toArray lo hi none=((its.drop (HT.sIx its.length 0 lo)).take (HT.sIx its.length its.length hi - HT.sIx its.length 0 lo)).toArray:=by
 obtain ⟨h1,h2,h3⟩:=zdZ lo hi its.toArray.size
 unfold slicePick
 rw [h1,h2,h3]
 simp only [sliceRange_one,pick_run,List.size_toArray] <;> rfl
noncomputable def rSlL (K:PySem.W.Frag):V->Option Int->Option Int->Hp->VK->Prop:=fun x lo hi H Q=>∃ a xs,x=.ref a /\ SqL K H a xs /\ ∀ p,H p=none->Q (.ref p) (upd H p (.lst (cutV xs lo hi)))
theorem zkc:SlR X (rSlL X.K):=by
 intro pins s σ H x v vl vu lo hi sl Q I rx hs pl pu h
 obtain ⟨a,xs,rfl,hx,q⟩:=h
 cases rx
 obtain ⟨its,r,ht,hz⟩:=I.list hx
 have hlen:=r.length
 refine ⟨"list",_,slot_list_getitem.lookup,ht.isList.typeIs,?_⟩
 refine wpAny_getItem_list_slice ht.isList hs pl pu .none (by simp) ?_ (by rw [List.size_toArray] <;> omega)
 rw [zdp,<- hlen]
 refine ⟨.ref s.heap.objs.size,_,I.laid (t':=s.toks) (o:=.lst (cutV xs lo hi)) (fun b ob q=>Heap.get?_push_of_some _ q) (Nat.le_refl _) ?_,rfl,q _ (I.hok.fresh (Nat.le_refl _))⟩
 exact ⟨Nat.le_trans (zeH xs lo hi) hz,_,0,(r.drop (HT.sIx xs.length 0 lo)).take (HT.sIx xs.length xs.length hi - HT.sIx xs.length 0 lo),Heap.get?_push_size _ rfl⟩
noncomputable def flatV:V->Bool
 | .non=>true
 | .bl _=>true
 | .int _=>true
 | .str _=>true
 | _=>false
noncomputable def eqV:V->V->Bool
 | .non,.non=>true
 | .bl a,.bl b=>a == b
 | .bl a,.int b=>(if a then 1 else 0) == b
 | .int a,.bl b=>a == (if b then 1 else 0)
 | .int a,.int b=>a == b
 | .str a,.str b=>a == b
 | _,_=>false
theorem zlE {A:Around} {s:Shared} {y x:V} {u v:Value} (ry:RelV y u) (rx:RelV x v) (fy:flatV y=true) (fx:flatV x=true):SeqAt.EqAt A s u v (eqV y x):=by
 cases y with
 | non=>
   cases ry
   cases x with
   | non=>cases rx; exact SeqAt.EqAt.same _
   | bl b=>cases rx; exact SeqAt.EqAt.none_bool b
   | int b=>obtain ⟨t,rfl⟩:=rx; exact SeqAt.EqAt.none_int b t
   | str b=>obtain ⟨t,rfl⟩:=rx; exact SeqAt.EqAt.none_str b t
   | _=>exact absurd (show false=true from fx) Bool.false_ne_true
 | bl a=>
   cases ry
   cases x with
   | non=>cases rx; exact SeqAt.EqAt.bool_none a
   | bl b=>cases rx; exact SeqAt.EqAt.bool_bool a b
   | int b=>obtain ⟨t,rfl⟩:=rx; exact SeqAt.EqAt.bool_int a b t
   | str b=>obtain ⟨t,rfl⟩:=rx; exact SeqAt.EqAt.bool_str a b t
   | _=>exact absurd (show false=true from fx) Bool.false_ne_true
 | int a=>
   obtain ⟨t',rfl⟩:=ry
   cases x with
   | non=>cases rx; exact SeqAt.EqAt.int_none a t'
   | bl b=>cases rx; exact SeqAt.EqAt.int_bool a t' b
   | int b=>obtain ⟨t,rfl⟩:=rx; exact SeqAt.EqAt.int_int a t' b t
   | str b=>obtain ⟨t,rfl⟩:=rx; exact SeqAt.EqAt.int_str a t' b t
   | _=>exact absurd (show false=true from fx) Bool.false_ne_true
 | str a=>
   obtain ⟨t',rfl⟩:=ry
   cases x with
   | non=>cases rx; exact SeqAt.EqAt.str_none a t'
   | bl b=>cases rx; exact SeqAt.EqAt.str_bool a t' b
   | int b=>obtain ⟨t,rfl⟩:=rx; exact SeqAt.EqAt.str_int a t' b t
   | str b=>obtain ⟨t,rfl⟩:=rx; exact SeqAt.EqAt.str_str a t' b t
   | _=>exact absurd (show false=true from fx) Bool.false_ne_true
 | _=>exact absurd (show false=true from fy) Bool.false_ne_true
noncomputable def eqU (x:V) (u:Value):Bool:=match u with
 | .none=>eqV .non x
 | .bool b=>eqV (.bl b) x
 | .int i _=>eqV (.int i) x
 | .str z _=>eqV (.str z) x
 | _=>false
theorem zj1 {x y:V} {u:Value} (r:RelV y u) (f:flatV y=true):eqU x u=eqV y x:=by
 cases y with
 | non=>cases r; rfl
 | bl b=>cases r; rfl
 | int i=>obtain ⟨t,rfl⟩:=r; rfl
 | str z=>obtain ⟨t,rfl⟩:=r; rfl
 | _=>exact absurd (show false=true from f) Bool.false_ne_true
theorem zcY {x:V}:∀ {xs:List V} {us:List Value},Vals xs us->xs.all flatV=true->us.any (eqU x)=xs.any fun y=>eqV y x
 | _,_,.nil,_=>rfl
 | y :: xs,u :: us,.cons r t,f=>by
   rw [List.all_cons,Bool.and_eq_true] at f
   rw [List.any_cons,List.any_cons,zj1 r f.1,zcY t f.2]
theorem zbQ {A:Around} {s:Shared} {x:V} {v:Value} (rx:RelV x v) (fx:flatV x=true):∀ {xs:List V} {us:List Value},Vals xs us->xs.all flatV=true->∀ u∈us,SeqAt.EqAt A s u v (eqU x u)
 | _,_,.nil,_=>fun u hu=>by cases hu
 | y :: xs,u :: us,.cons r t,f=>fun u' hu=>by
   rw [List.all_cons,Bool.and_eq_true] at f
   rcases List.mem_cons.mp hu with rfl | hu
   ·rw [zj1 r f.1]; exact zlE r rx f.1 fx
   ·exact zbQ rx fx t f.2 u' hu
noncomputable def inV (x:V) (xs:List V):Bool:=xs.any fun y=>eqV y x
noncomputable def rIn (K:PySem.W.Frag) (neg:Bool):R2:=fun x y H Q=>∃ p xs,y=.ref p /\ (SqL K H p xs \/ SqT K H p xs) /\ flatV x=true /\ xs.all flatV=true /\ Q (.bl (if neg then !inV x xs else inV x xs)) H
theorem zie:OpR X (compareOp .In) (rIn X.K false):=by
 intro pins s σ H x y v u Q I rx ry h
 obtain ⟨p,xs,rfl,hq,fx,fs,q⟩:=h
 cases ry
 rcases hq with hq | hq
 ·obtain ⟨its,r,pl,hz⟩:=I.list hq
  refine SeqAt.in_listAt (eqU x) pl.isList (fun w hw=>zbQ rx fx r fs w (by simpa using hw)) ⟨.bl _,H,I,rfl,?_⟩
  rw [show its.toArray.any (eqU x)=its.any (eqU x) by simp,zcY r fs]
  exact q
 ·obtain ⟨its,r,pl,hz⟩:=I.tuple hq
  refine SeqAt.in_tupleAt (eqU x) pl (fun w hw=>zbQ rx fx r fs w (by simpa using hw)) ⟨.bl _,H,I,rfl,?_⟩
  rw [show its.toArray.any (eqU x)=its.any (eqU x) by simp,zcY r fs]
  exact q
theorem zd3:OpR X (compareOp .NotIn) (rIn X.K true):=by
 intro pins s σ H x y v u Q I rx ry h
 obtain ⟨p,xs,rfl,hq,fx,fs,q⟩:=h
 cases ry
 rcases hq with hq | hq
 ·obtain ⟨its,r,pl,hz⟩:=I.list hq
  refine SeqAt.notIn_listAt (eqU x) pl.isList (fun w hw=>zbQ rx fx r fs w (by simpa using hw)) ⟨.bl _,H,I,rfl,?_⟩
  rw [show its.toArray.any (eqU x)=its.any (eqU x) by simp,zcY r fs]
  exact q
 ·obtain ⟨its,r,pl,hz⟩:=I.tuple hq
  refine SeqAt.notIn_tupleAt (eqU x) pl (fun w hw=>zbQ rx fx r fs w (by simpa using hw)) ⟨.bl _,H,I,rfl,?_⟩
  rw [show its.toArray.any (eqU x)=its.any (eqU x) by simp,zcY r fs]
  exact q
theorem zes:CallR X (.builtin "len") (fun xs H Q=>∃ p ys,xs=[.ref p] /\ (SqL X.K H p ys \/ SqT X.K H p ys) /\ Q (.int ys.length) H):=by
 intro pins s σ H xs us Q I r h
 obtain ⟨p,ys,rfl,hq,q⟩:=h
 obtain ⟨u,rfl,rx⟩:=vals1 r
 cases rx
 have hn:=line63
 rcases hq with hq | hq
 ·obtain ⟨its,r',pl,hz⟩:=I.list hq
  have hlen:=r'.length
  exact Calls.call_len_list pl.isList (by simp only [List.size_toArray] <;> omega) ⟨.int ys.length,H,I.tok _,⟨s.toks + 1,by rw [List.size_toArray,hlen]⟩,q⟩
 ·obtain ⟨its,r',pl,hz⟩:=I.tuple hq
  have hlen:=r'.length
  exact len_tuple pl (by simp only [List.size_toArray] <;> omega) ⟨.int ys.length,H,I.tok _,⟨s.toks + 1,by rw [List.size_toArray,hlen]⟩,q⟩
theorem zdR:CallR X (.builtin "len") (fun xs H Q=>∃ z,xs=[.str z] /\ z.length<=sizeLine /\ Q (.int z.length) H):=by
 intro pins s σ H xs us Q I r h
 obtain ⟨z,rfl,hz,q⟩:=h
 obtain ⟨u,rfl,t,rfl⟩:=vals1 r
 have hn:=line63
 exact len_str (by omega) ⟨.int z.length,H,I.tok _,⟨_,rfl⟩,q⟩
theorem CallR.or {f:Value} {r r':List V->Hp->VK->Prop} (h:CallR X f r) (h':CallR X f r'):CallR X f (fun xs H Q=>r xs H Q \/ r' xs H Q):=by
 intro pins s σ H xs us Q I rs q
 rcases q with q | q
 ·exact h pins s σ H xs us Q I rs q
 ·exact h' pins s σ H xs us Q I rs q
theorem zcj:CallR X (.type "list") (fun xs H Q=>∃ p ys,xs=[.ref p] /\ (SqL X.K H p ys \/ SqT X.K H p ys) /\ ∀ l,H l=none->Q (.ref l) (upd H l (.lst ys))):=by
 intro pins s σ H xs us Q I r h
 obtain ⟨p,ys,rfl,hq,q⟩:=h
 obtain ⟨u,rfl,rx⟩:=vals1 r
 cases rx
 have fin:∀ (its:List Value),Vals ys its->ys.length<=sizeLine->∀ (h':Heap) (c':Nat),(∀ b o',s.heap.get? b=some o'->h'.get? b=some o')->
   h'.get? s.heap.objs.size=some { cls:=.type "list",dict:=none,data:=.seq its.toArray c',slots:=#[] }->EP X pins σ Q (.ref s.heap.objs.size) { s with heap:=h' }:=fun its r' hz h' c' kp e=>
  ⟨.ref s.heap.objs.size,_,I.laid (t':=s.toks) kp (Nat.le_refl _) (show ObjOk X.prog X.w _ h' _ (.lst ys) from ⟨hz,its,c',r',e⟩),rfl,q _ (I.hok.fresh (Nat.le_refl _))⟩
 rcases hq with hq | hq
 ·obtain ⟨its,r',pl,hz⟩:=I.list hq
  have hlen:=r'.length
  obtain ⟨o,ho,hc,n,hd⟩:=pl.isList
  exact call_list_seq p (.inl rfl) ho hc hd (fun h' c' kp e=>fin its r' hz h' c' kp e) (by simp only [List.size_toArray] <;> omega)
 ·obtain ⟨its,r',pl,hz⟩:=I.tuple hq
  have hlen:=r'.length
  obtain ⟨o,ho,hc,n,hd⟩:=pl
  exact call_list_seq p (.inr rfl) ho hc hd (fun h' c' kp e=>fin its r' hz h' c' kp e) (by simp only [List.size_toArray] <;> omega)
theorem zbJ:CallR X (.type "tuple") (fun xs H Q=>∃ p ys,xs=[.ref p] /\ ((SqL X.K H p ys /\ ∀ l,H l=none->Q (.ref l) (upd H l (.tup ys))) \/ (SqT X.K H p ys /\ Q (.ref p) H))):=by
 intro pins s σ H xs us Q I r h
 obtain ⟨p,ys,rfl,h⟩:=h
 obtain ⟨u,rfl,rx⟩:=vals1 r
 cases rx
 rcases h with ⟨hq,q⟩ | ⟨hq,q⟩
 ·obtain ⟨its,r',pl,hz⟩:=I.list hq
  have hlen:=r'.length
  refine call_tuple_list pl.isList (fun h' kp=>?_) (by simp only [List.size_toArray] <;> omega)
  have I1:Inv X pins σ H { s with heap:=h' }:=I.kept (t':=s.toks) kp
  have I2:Inv X pins σ (upd H h'.objs.size (.tup ys)) { s with heap:=h'.push { cls:=.type "tuple",data:=.seq its.toArray } }:=
   I1.laid (t':=s.toks) (fun b o e=>Heap.get?_push_of_some _ e) (Nat.le_refl _) (show ObjOk X.prog X.w _ _ _ (.tup ys) from ⟨hz,its,r',IsTup.new _ _⟩)
  exact ⟨.ref h'.objs.size,_,I2,rfl,q _ (I1.hok.fresh (Nat.le_refl _))⟩
 ·obtain ⟨its,r',pl,hz⟩:=I.tuple hq
  exact call_tuple_same pl ⟨.ref p,H,I,rfl,q⟩
noncomputable def tyV (K:PySem.W.Frag) (T:String) (x:V) (H:Hp):Prop:=match x with
 | .str _=>T="str"
 | .int _=>T="int"
 | .ref p=>(T="list" /\ ∃ xs,SqL K H p xs) \/ (T="tuple" /\ ∃ o,K.lookup p=some o /\ o.cls=.type "tuple" /\ o.dict=none) \/
   (T="dict" /\ ((∃ kvs,H p=some (.dK kvs)) \/ ∃ kvs,H p=some (.dT kvs))) \/ (T="set" /\ ∃ S n,H p=some (.set S n))
 | _=>False
theorem zj3 {pins:List (Addr×Obj)} {σ:St} {H:Hp} {s:Shared} {T:String} {x:V} {v:Value} (I:Inv X pins σ H s) (r:RelV x v) (ty:tyV X.K T x H):
  s.TypeIs v T /\ ∀ a,v=.ref a->∃ ob,s.heap.get? a=some ob /\ ob.dict=none:=by
 cases x with
 | str z=>
   obtain ⟨t,rfl⟩:=r
   cases (show T="str" from ty)
   exact ⟨typeIs_str s z t,fun _ e=>nomatch e⟩
 | int i=>
   obtain ⟨t,rfl⟩:=r
   cases (show T="int" from ty)
   exact ⟨typeIs_int s i t,fun _ e=>nomatch e⟩
 | ref p=>
   cases r
   rcases ty with ⟨rfl,xs,hq⟩ | ⟨rfl,o,hk,hc,hd⟩ | ⟨rfl,hk⟩ | ⟨rfl,S,n,hk⟩
   ·obtain ⟨its,_,pl,_⟩:=I.list hq
    refine ⟨pl.isList.typeIs,fun a e=>?_⟩
    cases e
    obtain ⟨o,n,e,c,hd,_⟩:=pl
    exact ⟨o,e,hd⟩
   ·refine ⟨⟨o,I.kIn p o hk,hc⟩,fun a e=>?_⟩
    cases e
    exact ⟨o,I.kIn _ o hk,hd⟩
   ·have z:∃ o,s.heap.get? p=some o /\ o.ExactDict:=by
     rcases hk with ⟨kvs,hk⟩ | ⟨kvs,hk⟩
     ·obtain ⟨_,_,_,_,o,_,_,e,ex,_⟩:=I.hok p _ hk
      exact ⟨o,e,ex⟩
     ·obtain ⟨_,_,_,_,o,_,_,e,ex,_⟩:=I.hok p _ hk
      exact ⟨o,e,ex⟩
    obtain ⟨o,e,ex⟩:=z
    refine ⟨⟨o,e,ex.1⟩,fun a e2=>?_⟩
    cases e2
    exact ⟨o,e,ex.2.1⟩
   ·obtain ⟨o,_,_,_,e,ex,_⟩:=I.hok p _ hk
    refine ⟨⟨o,e,ex.1⟩,fun a e2=>?_⟩
    cases e2
    exact ⟨o,e,ex.2.1⟩
 | _=>exact False.elim ty
noncomputable def tBM0 (K:PySem.W.Frag) (T:String) (r:V->List V->Hp->VK->Prop) (to:TE):TE:=fun σ H Q=>to σ H fun x H1=>tyV K T x H1 /\ r x [] H1 Q
noncomputable def tBM (K:PySem.W.Frag) (T:String) (r:V->List V->Hp->VK->Prop) (to:TE) (t:TA):TE:=fun σ H Q=>to σ H fun x H1=>tyV K T x H1 /\ t σ H1 fun xs H2=>r x xs H2 Q
variable {o e:Expr} {es:List Expr} {to:TE} {t:TA} {name:Str} {apos cpos:Pos} {T id:String} {r:V->List V->Hp->VK->Prop}
theorem zjM (pa:PlainAttrs T) (slot:Slot T name id) (hty:typeOf (.builtin id)=pure (.type "method_descriptor")) (hm:MtR X id r) (ho:PE X o to)
  (hbase:attributeBase o name X.env (eval o X.env)=eval o X.env:=by rfl) (hline:(apos.endLine == cpos.line)=true:=by rfl):PE X (.Call (.Attribute o name apos) [] [] cpos) (tBM0 X.K T r to):=by
 intro pins s σ H Q I h
 refine wpAny_Call_method0_late hbase hline (thn (ho pins s σ H _ I h) fun v s1 ⟨x,H1,I1,r1,ty,q1⟩=>?_)
 obtain ⟨h1,h2⟩:=zj3 I1 r1 ty
 exact ⟨T,id,pa,slot,hty,h1,h2,Calls.callWith_builtin rfl (PySem.evalArgs_none (hm pins s1 σ H1 x [] v [] Q I1 r1 .nil q1))⟩
theorem zcm (pa:PlainAttrs T) (slot:Slot T name id) (hty:typeOf (.builtin id)=pure (.type "method_descriptor")) (hm:MtR X id r) (ho:PE X o to) (ha:PA X (e :: es) t)
  (hbase:attributeBase o name X.env (eval o X.env)=eval o X.env:=by rfl)
  (hfew:((backTo cpos (starEach (e :: es) X.env)).all (fun x=> !x.1) && (backToKw cpos (keywordEach [] X.env)).all (fun x=>x.1.isSome)
   && decide ((e :: es).length + ([]:List Keyword).length + (if ([]:List Keyword).isEmpty then 0 else 1) < 30))=true:=by rfl)
  (hline:(apos.endLine == cpos.line)=true:=by rfl) (hs:starEach (e :: es) X.env=(false,eval e X.env) :: starEach es X.env:=by rfl) (hplain:(backTo cpos (starEach es X.env)).any (·.1)=false:=by rfl):
  PE X (.Call (.Attribute o name apos) (e :: es) [] cpos) (tBM X.K T r to t):=by
 intro pins s σ H Q I h
 refine wpAny_Call_method_late hbase hfew hline rfl (thn (ho pins s σ H _ I h) fun v s1 ⟨x,H1,I1,r1,ty,q1⟩=>?_)
 obtain ⟨h1,h2⟩:=zj3 I1 r1 ty
 refine ⟨T,id,pa,slot,hty,h1,h2,?_⟩
 have hA:=ha cpos pins s1 σ H1 _ I1 q1
 rw [hs] at hA ⊢
 refine Calls.callWith_builtin (by show (false || (backTo cpos (starEach es X.env)).any (·.1))=false; rw [hplain] <;> rfl) (Calls.evalArgs_plain ?_)
 exact thn hA fun us s2 ⟨vs,H2,I2,r2,q2⟩=>hm pins s2 σ H2 x vs v us Q I2 r1 r2 q2
/- xs.append(e),list.index on a module's tuple .. are MtR facts of 06m -/
end
end L2
namespace L2
open PySem PySem.Spec PyProof.Rows
noncomputable def MtM (X:Cx) (id:String) (r:V->List V->Hp->VK->Prop):Prop:=
 ∀ (pins:List (Addr×Obj)) (s:Shared) (σ:St) (H:Hp) (x:V) (xs:List V) (v:Value) (us:List Value) (Q:VK),Inv X pins σ H s->RelV x v->Vals xs us->r x xs H Q->
   wpAny (model X.prog X.w) X.A (call (.builtin id) (v :: us)) (EP X pins σ Q) X.xe s
theorem Vals.one:∀ {x:V} {us:List Value},Vals [x] us->∃ u,us=[u] /\ RelV x u
 | _,_,.cons r .nil=>⟨_,rfl,r⟩
theorem Vals.zero:∀ {us:List Value},Vals [] us->us=[]
 | _,.nil=>rfl
theorem Vals.dropLast {xs:List V} {us:List Value} (h:Vals xs us):Vals xs.dropLast us.dropLast:=by
 induction h with
 | nil=>exact .nil
 | cons r t ih=>
   cases t with
   | nil=>exact .nil
   | cons q t'=>exact .cons r ih
theorem zgt {α:Type} (l:List α):l.eraseIdx (l.length - 1)=l.dropLast:=by
 induction l with
 | nil=>rfl
 | cons a r ih=>
   cases r with
   | nil=>rfl
   | cons b r=>
     have e:(a :: b :: r).length - 1=((b :: r).length - 1) + 1:=by
      have h1:(a :: b :: r).length=r.length + 2:=rfl
      have h2:(b :: r).length=r.length + 1:=rfl
      omega
     rw [e,List.eraseIdx_cons_succ,ih]
     all_goals rfl
section
variable {X:Cx} {pins:List (Addr×Obj)} {σ:St} {H:Hp} {s:Shared} {l b:Addr} {xs ys zs:List V}
theorem Inv.lset {its its':List Value} {n:Nat} {f:Array Value->Array Value} {t':Nat} (I:Inv X pins σ H s) (hH:H l=some (.lst xs))
  (e:s.heap.get? l=some { cls:=.type "list",data:=.seq its.toArray n }) (hf:f its.toArray=its'.toArray) (hv:Vals ys its') (hz:ys.length<=sizeLine):
  Inv X pins σ (upd H l (.lst ys)) { s with heap:=s.heap.update l (Obj.mapSeq f),toks:=t' }:=by
 have q:=PySem.IsL.update e f
 rw [hf] at q
 refine I.write (x:=l) (e:=l) (by rw [hH]; exact trivial) (.inl rfl) (fun b' u hb hu=>(Heap.get?_update_other s.heap (Obj.mapSeq f) (Ne.symm hb)).trans hu) ⟨_,q⟩ ?_
 exact ⟨hz,its',_,hv,q⟩
theorem Inv.lnew {its:List Value} {t':Nat} (I:Inv X pins σ H s) (hv:Vals ys its) (hz:ys.length<=sizeLine):
  Inv X pins σ (upd H s.heap.objs.size (.lst ys)) { s with heap:=s.heap.push { cls:=.type "list",data:=.seq its.toArray },toks:=t' }:=
 I.laid (fun _ _ q=>Heap.get?_push_of_some _ q) (Nat.le_refl _) ⟨hz,its,0,hv,Heap.get?_push_size _ rfl⟩
theorem Inv.fresh (I:Inv X pins σ H s):H s.heap.objs.size=none:=I.hok.fresh (Nat.le_refl _)
theorem Inv.lstM (I:Inv X pins σ H s) (hH:H l=some (.lst xs)):xs.length<=sizeLine /\ ∃ (its:List Value) (n:Nat),Vals xs its /\ xs.length=its.length /\ s.heap.get? l=some { cls:=.type "list",data:=.seq its.toArray n }:=by
 obtain ⟨z,its,n,r,e⟩:=I.hok l _ hH
 exact ⟨z,its,n,r,r.length,e⟩
theorem notLongL {n:Nat} (h:n<=sizeLine):Builtin.List.listTooLong n=false:=by
 unfold Builtin.List.listTooLong
 exact decide_eq_false (by omega)
end
section
variable {X:Cx}
noncomputable def rAppend:V->List V->Hp->VK->Prop:=fun x vs H Q=>∃ l xs y,x=.ref l /\ vs=[y] /\ H l=some (.lst xs) /\ xs.length < sizeLine /\ Q .non (upd H l (.lst (xs ++ [y])))
theorem zbf:MtM X "list.append" rAppend:=by
 intro pins s σ H x vs v us Q I rx rv h
 obtain ⟨l,xs,y,rfl,rfl,hH,hz,q⟩:=h
 cases rx
 obtain ⟨u,rfl,ru⟩:=rv.one
 obtain ⟨z,its,n,r,hl,e⟩:=I.lstM hH
 refine call_meets F.slot_list_append ⟨_,e,rfl⟩ F.entry_list_append (F.args_list_append_2 _ _) (PySem.list_append l its.toArray n u (by rw [List.size_toArray]; omega)) ⟨e,?_⟩
 refine ⟨.non,_,I.lset (its':=its ++ [u]) hH e (by simp) (r.append (.cons ru .nil)) ?_,rfl,q⟩
 rw [List.length_append,List.length_singleton]
 omega
noncomputable def rExtend:V->List V->Hp->VK->Prop:=fun x vs H Q=>∃ l b xs zs,x=.ref l /\ vs=[.ref b] /\ H l=some (.lst xs) /\ H b=some (.lst zs) /\ xs.length + zs.length<=sizeLine /\ Q .non (upd H l (.lst (xs ++ zs)))
theorem zbU:MtM X "list.extend" rExtend:=by
 intro pins s σ H x vs v us Q I rx rv h
 obtain ⟨l,b,xs,zs,rfl,rfl,hH,hB,hz,q⟩:=h
 cases rx
 obtain ⟨u,rfl,ru⟩:=rv.one
 cases ru
 obtain ⟨z,its,n,r,hl,e⟩:=I.lstM hH
 obtain ⟨z2,its2,n2,r2,hl2,e2⟩:=I.lstM hB
 have hsz:its.toArray.size + its2.toArray.size<=sizeLine:=by rw [List.size_toArray,List.size_toArray]; omega
 have hlong:¬ (!its.toArray.isEmpty && Builtin.List.listTooLong (its.toArray.size + its2.toArray.size))=true:=by
  rw [notLongL hsz,Bool.and_false]
  exact Bool.false_ne_true
 refine call_meets F.slot_list_extend ⟨_,e,rfl⟩ F.entry_list_extend (F.args_list_extend_2 _ _)
  (AutoSeq1.list_extend_list_list_0 l its.toArray n b its2.toArray n2 hlong (by rw [List.size_toArray]; omega) (by omega)) ⟨e,e2,?_⟩
 refine ⟨.non,_,I.lset (its':=its ++ its2) hH e (by simp) (r.append r2) ?_,rfl,q⟩
 rw [List.length_append]
 omega
noncomputable def rPop:V->List V->Hp->VK->Prop:=fun x vs H Q=>∃ l xs y,x=.ref l /\ vs=[] /\ H l=some (.lst xs) /\ xs[xs.length - 1]?=some y /\ Q y (upd H l (.lst xs.dropLast))
theorem zl1:MtM X "list.pop" rPop:=by
 intro pins s σ H x vs v us Q I rx rv h
 obtain ⟨l,xs,y,rfl,rfl,hH,hy,q⟩:=h
 cases rx
 have hus:=rv.zero
 subst hus
 obtain ⟨z,its,n,r,hl,e⟩:=I.lstM hH
 obtain ⟨u,hu,ru⟩:=r.get hy
 have hy':its.toArray[its.toArray.size - 1]?=some u:=by
  show its.toArray[its.length - 1]?=some u
  rw [<- Array.getElem?_toList,<- hl]
  exact hu
 refine call_meets F.slot_list_pop ⟨_,e,rfl⟩ F.entry_list_pop (F.args_list_pop_1 _) (MeetsSeq.list_pop_last l its.toArray n u hy' (by rw [List.size_toArray]; omega)) ⟨e,?_⟩
 refine ⟨y,_,I.lset (its':=its.dropLast) hH e ?_ r.dropLast ?_,ru,q⟩
 ·show its.toArray.eraseIdxIfInBounds (its.toArray.size - 1)=its.dropLast.toArray
  rw [List.size_toArray,List.eraseIdxIfInBounds_toArray,zgt]
 ·rw [List.length_dropLast]
  omega
noncomputable def rClear:V->List V->Hp->VK->Prop:=fun x vs H Q=>∃ l xs,x=.ref l /\ vs=[] /\ H l=some (.lst xs) /\ Q .non (upd H l (.lst []))
theorem zjq:MtM X "list.clear" rClear:=by
 intro pins s σ H x vs v us Q I rx rv h
 obtain ⟨l,xs,rfl,rfl,hH,q⟩:=h
 cases rx
 have hus:=rv.zero
 subst hus
 obtain ⟨z,its,n,r,hl,e⟩:=I.lstM hH
 refine call_meets F.slot_list_clear ⟨_,e,rfl⟩ F.entry_list_clear (F.args_list_clear_1 _) (AutoSeq1.list_clear_list_0 l its.toArray n (by rw [List.size_toArray]; omega)) ⟨e,?_⟩
 exact ⟨.non,_,I.lset (its':=[]) (ys:=[]) hH e rfl .nil (Nat.zero_le _),rfl,q⟩
end
section
variable {prog:Program} {w:World} {A:Around} {E:Value->Shared->Prop} {s:Shared}
end
section
variable {X:Cx}
end
end L2
namespace Att
open PySem PySem.W PySem.Calls PyProof.Rows
theorem zcO {P:Params} {h:Heap}:∀ (ns:List Int) (vs:List Value),WellAll P h vs (ns.map WData.int)->IntsAre vs ns:=by
 intro ns
 induction ns with
 | nil=>
   intro vs w
   rw [List.map_nil] at w
   cases w
   exact .nil
 | cons n ns ih=>
   intro vs w
   rw [List.map_cons] at w
   cases w with
   | cons a b=>
     cases a
     exact .cons _ _ (ih _ b)
theorem zg6 {l:OpenLaw} {n:Nat} (hn:l.most=some n) {P:Params} {h:Heap} {args:List WData} {vals:List Value}
  (hpre:l.row.toRowW.claim.pre args=true) (hwl:WellAll P h vals args):
  ∃ a vs ns,vals=[Value.ref a] /\ args=[WData.list (ns.map WData.int)] /\ h.get? a=some { cls:=.type "list",data:=.seq vs.toArray } /\ IntsAre vs ns /\ ns.length<=n:=by
 have hsh:WShape.hasAll [] args [.list .int]=true:=(pre_splitW hpre).1
 have hc:l.pre.holds [] { args:=args }=true:=(pre_splitW hpre).2
 obtain ⟨d,r,rfl,h1,h2⟩:=hasAllW_cons hsh
 obtain rfl:=hasAllW_nil h2
 obtain ⟨xs,rfl,h3⟩:=hasW_list h1
 obtain ⟨ns,rfl⟩:=items_int h3
 have hlen:ns.length<=n:=by
  unfold OpenLaw.pre at hc
  have h4:(WTm.not (.lt (.lit (.int (n:Int))) (.len (.arg 0)))).holds [] { args:=[.list (ns.map .int)] }=true:=by
   have h4:=(holds_andW hc).1
   rw [hn] at h4
   exact h4
  have h5:=condW_of h4 (w_not (w_lt w_lit (w_len_list (w_arg rfl))))
  rw [List.length_map] at h5
  refine Nat.le_of_not_lt fun q=>?_
  have q':(n:Int) < ((ns.length:Nat):Int):=by omega
  first
   | (rw [decide_eq_true q'] at h5; exact absurd h5 (by decide))
   | (simp at h5; omega)
 cases hwl with
 | cons w1 w2=>
   cases w2
   cases w1 with
   | list ho hall=>exact ⟨_,_,ns,rfl,rfl,ho,zcO ns _ hall,hlen⟩
theorem zhN (l:OpenLaw) (args:List WData):l.row.toRowW.claim.post args (.bool true) args=true:=
 postW_of (r:=l.row.toRowW) (X:=(true == true))
  (show WShape.has [] (.bool true) .bool=true by first | rfl | decide | simp [WShape.has,WShape.arms,WShape.armsAll])
  (show (WTm.eq .res (.lit (.bool true))).value [] { args:=args,res:=some (.bool true),after:=args }=some (.bool (true == true)) from w_eq_bool (w_res rfl) w_lit) rfl
theorem zfg {l:OpenLaw} {n:Nat} {q:Program} {loose:List Str} {XP:(Str->Option Value)->Heap->Prop} {YP:World->Heap->Prop} {d:DefRec}
  (hn:l.most=some n) (hdf:d.params.defaults=[])
  (call:∀ (w:World) (s₀ s₁:Shared) (mg mb:Str->Option Value) (fa:Addr) (o:Obj) (pm cd doc:Value) (a:Addr) (vs:List Value) (ns:List Int),
   Ground q loose [] XP w s₀ mg mb s₁.heap->YP w s₁.heap->
   s₁.heap.get? fa=some o->o.data=.func (docDef d.name d.params d.body d.scope pm cd doc)->s₁.heap.CodeRec cd d.name->mg d.name=some (.ref fa)->
   s₁.heap.get? a=some { cls:=.type "list",data:=.seq vs.toArray }->IntsAre vs ns->ns.length<=n->s₁.gens=#[]->
   codeAny (model l.prog w) callerA (.call (.ref fa) ⟨[.ref a],[]⟩) (fun r s'=>r=.ok (.ret (.bool true)) /\ OldK s₁.heap s'.heap /\ s'.os=s₁.os /\ AllBare s'.gens) s₁):
  WalkO q loose XP YP l.row.toRowW d [] (fun f vs=>PySem.call f vs):=by
 intro w s₀ s₁ mg mb G Y fa o pm cd doc dV kV ho hd hcd hD hmg hg args vals as hpre hlay hrd hwl hlo
 obtain rfl:dV=.none:=Dflts.none hD hdf
 obtain rfl:kV=.none:=Dflts.noKw hD
 obtain ⟨a,vs,ns,rfl,rfl,hobj,hints,hlen⟩:=zg6 hn hpre hwl
 refine enter_call (codeAny_mono (call w s₀ s₁ mg mb fa o pm cd doc a vs ns G Y ho (fd_plain hd) hcd hmg hobj hints hlen hg) fun r s' hq=>?_)
 obtain ⟨rfl,h2,h3,h4⟩:=hq
 exact ⟨.inl ⟨.bool true,.bool true,[],rfl,fun _=>rfl,.bool true,zhN l _,fun _=>⟨List.Pairwise.nil,fun _ hm=>(nomatch hm)⟩⟩,h2,h3,h4⟩
section
variable {prog:Program} {w:World} {A:Around} {E:Value->Shared->Prop} {s:Shared} {K:Frag}
end
end Att
namespace L2
open PySem PySem.Spec PyProof.Rows
theorem zd5:∀ {vs:List Value} {ns:List Int},IntsAre vs ns->Vals (ns.map V.int) vs
 | _,_,.nil=>.nil
 | _,_,.cons n t h=>.cons ⟨t,rfl⟩ (zd5 h)
noncomputable def Only (H:Hp):Prop:=∀ b,H b=none \/ ∃ o xs,H b=some (.frz o (.lst xs))
noncomputable def LsD (K:PySem.W.Frag) (H:Hp) (a:Addr) (xs:List V):Prop:=
 Rd H a (.lst xs) \/ ∃ (its:List Value) (n:Nat),K.lookup a=some { cls:=.type "list",data:=.seq its.toArray n } /\ its.length<=sizeLine /\ Vals xs its
end L2
namespace L2
open PySem PySem.Spec PyProof.Rows
end L2
namespace L2
open PySem PySem.Spec PyProof.Rows
noncomputable abbrev CX0:CXT:=fun _ _ _ _ _ _=>False
noncomputable abbrev E0:XK:=fun _ _ _=>False
theorem pass0 {X:Cx}:Passes CX0 X E0:=fun _ _ _ _ _ _ _ h=>h.elim
structure Fun (K:PySem.W.Frag) (x qual:Str) (st:Stmt) (f:Addr) (fd:FuncData):Prop where
 ex:∃ (oc:Value) (od:Option Addr) (kV doc pm:Value) (an:Option Addr) (cdv ct:Value) (osl:Array (Option Value)),
  fd=PySem.W.fnOf x qual (defArgs st) (defBody st) (defScope st) .none kV doc pm an cdv ct /\ K.lookup f=some ⟨oc,od,.func fd,osl⟩ /\ PySem.W.codeIn K cdv qual=true
 kp:PySem.W.keepIn K (.ref f)=true
section
variable {P:Program} {w:World} {K:PySem.W.Frag} {mg:Str->Option Value} {base:Heap}
theorem Fun.ok {x qual:Str} {st:Stmt} {f:Addr} {fd:FuncData} {N ps:List Str} {k:Nat} {sp:Sp} (F:Fun K x qual st f fd) (S:FnScope N ps (defScope st)) (len:∀ vs H Q E,sp vs H Q E->vs.length=ps.length)
  (hbody:∀ (cdv:Value) (A:Around) (outer:List Env) (s:Shared) (H:Hp) (vs:List V) (Q:VK) (E:XK),Room k (A.deeper (envOfC qual (defScope st) s.heap.objs.size f cdv))->sp vs H Q E->
   ∃ t,PSs (cxOf CX0 P w K mg base N qual (defScope st) f cdv A outer s H E).nox (defBody st) t /\ t { nx:=fun _ H'=>Q .non H',rt:=Q } (start N vs) H):FnOk P w K mg base CX0 (k + 1) f fd ps sp:=by
 obtain ⟨oc,od,kV,doc,pm,an,cdv,ct,osl,rfl,lk,hcd⟩:=F.ex
 refine zlC lk hcd S len fun A outer s H vs Q E hr hsp=>?_
 obtain ⟨t,h,q⟩:=hbody cdv A outer s H vs Q E hr hsp
 exact ⟨t,h.nox,q⟩
theorem Fun.binds {x qual:Str} {st:Stmt} {f:Addr} {fd:FuncData} {ps:List Str} (F:Fun K x qual st f fd)
  (h:∀ (kV doc pm:Value) (an:Option Addr) (cdv ct:Value) (us:List Value),us.length=ps.length->bindArgs (PySem.W.fnOf x qual (defArgs st) (defBody st) (defScope st) .none kV doc pm an cdv ct) ⟨us,[]⟩=pure (ps.zip us)):Binds K fd ps []:=by
 obtain ⟨oc,od,kV,doc,pm,an,cdv,ct,osl,rfl,lk,hcd⟩:=F.ex
 exact .all (h kV doc pm an cdv ct)
theorem z9 {x qual:Str} {st:Stmt} {f:Addr} {oc:Value} {od an:Option Addr} {osl:Array (Option Value)} {kV doc pm cdv ct:Value} (l:K.lookup f=some ⟨oc,od,.func (PySem.W.fnOf x qual (defArgs st) (defBody st) (defScope st) .none kV doc pm an cdv ct),osl⟩)
  (c:PySem.W.codeIn K cdv qual=true) (k:PySem.W.keepIn K (.ref f)=true):Fun K x qual st f (PySem.W.fnOf x qual (defArgs st) (defBody st) (defScope st) .none kV doc pm an cdv ct):=⟨⟨oc,od,kV,doc,pm,an,cdv,ct,osl,rfl,l,c⟩,k⟩
end
noncomputable def visB:Option NameKind->Bool
 | some .local=>true
 | some .cell=>true
 | some .free=>true
 | _=>false
theorem zlw {sc:Scope} {x:Str} (h:visB (sc.names.lookup x)=true):Vis sc x:=by
 unfold Vis
 cases e:sc.names.lookup x with
 | none=>rw [e] at h; cases h
 | some k=>
   rw [e] at h
   cases k <;> first | exact .inl rfl | exact .inr (.inl rfl) | exact .inr (.inr rfl) | cases h
section
variable {X:Cx}
theorem pv (i:Nat) {x:Str} {pos:Pos} (hN:X.N[i]?=some x:=by rfl) (hv:visB (X.env.scope.names.lookup x)=true:=by rfl) (hd:(x == ("__debug__":Str))=false:=by decide)
  (hcd:(x == ("__classdict__":Str))=false:=by decide):PE X (.Name x pos) (tVar i):=zlW hN (zlw hv) hd hcd
end
noncomputable def Same (H H':Hp):Prop:=∀ b o,H b=some o->H' b=some o
theorem Same.refl (H:Hp):Same H H:=fun _ _ h=>h
theorem Same.trans {H H1 H2:Hp} (a:Same H H1) (b:Same H1 H2):Same H H2:=fun c o h=>b c o (a c o h)
theorem Same.free {H H':Hp} (e:Same H H') {l:Addr} (h:H' l=Option.none):H l=Option.none:=by
 cases q:H l with
 | none=>rfl
 | some o=>
   rw [e l o q] at h
   cases h
end L2
namespace L2
open PySem PySem.Spec PyProof.Rows
section
variable {κ:Type} [DecidableEq κ]
noncomputable def valV (kvs:List (κ×V)) (k:κ):Option V:=(kvs.find? fun kv=>decide (kv.1=k)).map (·.2)
noncomputable def putK (kvs:List (κ×V)) (k:κ) (v:V):List (κ×V):=
 if (kvs.any fun kv=>decide (kv.1=k))=true then kvs.map (fun kv=>if kv.1=k then (kv.1,v) else kv) else kvs ++ [(k,v)]
theorem zcp {p:κ×V} {r:List (κ×V)} {k:κ} (e:p.1=k):valV (p :: r) k=some p.2:=by simp [valV,List.find?_cons,e]
theorem zcq {p:κ×V} {r:List (κ×V)} {k:κ} (e:¬ p.1=k):valV (p :: r) k=valV r k:=by simp [valV,List.find?_cons,e]
theorem zdo (k:κ):∀ kvs:List (κ×V),(kvs.any fun kv=>decide (kv.1=k))=(valV kvs k).isSome
 | []=>rfl
 | p :: r=>by
   rw [List.any_cons]
   by_cases e:p.1=k
   ·simp only [zcp e,decide_eq_true e,Bool.true_or,Option.isSome_some]
   ·rw [zcq e,decide_eq_false e,Bool.false_or]; exact zdo k r
theorem zcs (kvs:List (κ×V)) (k:κ) (v:V):(putK kvs k v).length<=kvs.length + 1:=by
 unfold putK
 split
 ·rw [List.length_map]; omega
 ·rw [List.length_append,List.length_cons,List.length_nil]; omega
theorem RelO.isSome_eq {o:Option V} {u:Option Value} (r:RelO o u):o.isSome=u.isSome:=by
 cases o with
 | none=>cases u with
   | none=>rfl
   | some _=>exact (show False from r).elim
 | some _=>cases u with
   | none=>exact (show False from r).elim
   | some _=>rfl
theorem RelO.getD {o:Option V} {u:Option Value} {d:V} {d':Value} (r:RelO o u) (rd:RelV d d'):RelV (o.getD d) (u.getD d'):=by
 cases o with
 | none=>cases u with
   | none=>exact rd
   | some _=>exact (show False from r).elim
 | some _=>cases u with
   | none=>exact (show False from r).elim
   | some _=>exact r
theorem KV.val {kvs:List (κ×V)} {vs:List (κ×Value)} (r:KV kvs vs) (k:κ):RelO (valV kvs k) (valueAt vs k):=by
 unfold KV at r
 induction r with
 | nil=>exact True.intro
 | @cons p q ps qs h t ih=>
   obtain ⟨h1,h2⟩:=h
   by_cases e:p.1=k
   ·have e':q.1=k:=h1.symm.trans e
    have b:valueAt (q :: qs) k=some q.2:=by simp [valueAt,List.find?_cons,e']
    rw [zcp e,b]; exact h2
   ·have e':¬ q.1=k:=fun z=>e (h1.trans z)
    have b:valueAt (q :: qs) k=valueAt qs k:=by simp [valueAt,List.find?_cons,e']
    rw [zcq e,b]; exact ih
theorem KV.any {kvs:List (κ×V)} {vs:List (κ×Value)} (r:KV kvs vs) (k:κ):(kvs.any fun kv=>decide (kv.1=k))=vs.any fun kv=>decide (kv.1=k):=by
 unfold KV at r
 induction r with
 | nil=>rfl
 | cons h t ih=>rw [List.any_cons,List.any_cons,ih,h.1]
theorem KV.repl {kvs:List (κ×V)} {vs:List (κ×Value)} (r:KV kvs vs) (k:κ) {y:V} {u:Value} (ry:RelV y u):
  KV (kvs.map fun kv=>if kv.1=k then (kv.1,y) else kv) (vs.map fun kv=>if kv.1=k then (kv.1,u) else kv):=by
 unfold KV at r ⊢
 induction r with
 | nil=>exact .nil
 | @cons p q ps qs h t ih=>
   rw [List.map_cons,List.map_cons]
   refine .cons ?_ ih
   obtain ⟨h1,h2⟩:=h
   by_cases e:p.1=k
   ·rw [if_pos e,if_pos (h1.symm.trans e)]; exact ⟨h1,ry⟩
   ·rw [if_neg e,if_neg (fun z=>e (h1.trans z))]; exact ⟨h1,h2⟩
theorem KV.put {kvs:List (κ×V)} {vs:List (κ×Value)} (r:KV kvs vs) (k:κ) {y:V} {u:Value} (ry:RelV y u):KV (putK kvs k y) (stored vs k u):=by
 unfold putK stored
 rw [r.any k]
 by_cases e:(vs.any fun kv=>decide (kv.1=k))=true
 ·rw [if_pos e,if_pos e]; exact r.repl k ry
 ·rw [if_neg e,if_neg e]; exact Paired.snoc r ⟨rfl,ry⟩
theorem KV.length {kvs:List (κ×V)} {vs:List (κ×Value)} (r:KV kvs vs):kvs.length=vs.length:=Paired.length r
end
theorem ziJ {P:Program} {w:World} {k:Key} {u:Value} (r:RelV (kV k) u):(mixKind P w).is k u=true:=by
 cases k with
 | inl i=>obtain ⟨t,e⟩:=(show ∃ t,u=Value.int i t from r); subst e; exact zfe P w i t
 | inr x=>obtain ⟨t,e⟩:=(show ∃ t,u=Value.str x t from r); subst e; exact zfa P w x t
theorem zdV {P:Program} {w:World}:∀ {ks:List Key} {us:List Value},Vals (ks.map kV) us->ItemsAre (mixKind P w) ks us
 | [],_,r=>by rw [List.map_nil] at r; cases r; exact .nil
 | k :: ks,_,r=>by
   rw [List.map_cons] at r
   cases r with
   | cons h t=>exact .cons (ziJ h) (zdV t)
noncomputable abbrev KT (H:Hp):List (List Key×V)->List (List Key×Addr×Value)->Prop:=Paired fun p q=>p.1=q.1 /\ TupT H q.2.1 (p.1.map kV) /\ RelV p.2 q.2.2
theorem KT.val {H:Hp} {kvs:List (List Key×V)} {xs:List (List Key×Addr×Value)} (r:KT H kvs xs) (k:List Key):RelO (valV kvs k) ((atKey xs k).map (·.2)):=by
 induction r with
 | nil=>exact True.intro
 | @cons p q ps qs h t ih=>
   obtain ⟨h1,_,h2⟩:=h
   by_cases e:p.1=k
   ·have e':q.1=k:=h1.symm.trans e
    have b:atKey (q :: qs) k=some q.2:=by simp [atKey,List.find?_cons,e']
    rw [zcp e,b]; exact h2
   ·have e':¬ q.1=k:=fun z=>e (h1.trans z)
    have b:atKey (q :: qs) k=atKey qs k:=by simp [atKey,List.find?_cons,e']
    rw [zcq e,b]; exact ih
theorem KT.repl {H:Hp} {kvs:List (List Key×V)} {xs:List (List Key×Addr×Value)} (r:KT H kvs xs) (k:List Key) {y:V} {u:Value} (ry:RelV y u):
  KT H (kvs.map fun kv=>if kv.1=k then (kv.1,y) else kv) (xs.map (putAt k u)):=by
 induction r with
 | nil=>exact .nil
 | @cons p q ps qs h t ih=>
   rw [List.map_cons,List.map_cons]
   refine .cons ?_ ih
   obtain ⟨h1,h2,h3⟩:=h
   unfold putAt
   by_cases e:p.1=k
   ·rw [if_pos e,if_pos (h1.symm.trans e)]; exact ⟨h1,h2,ry⟩
   ·rw [if_neg e,if_neg (fun z=>e (h1.trans z))]; exact ⟨h1,h2,h3⟩
theorem KT.put {H:Hp} {kvs:List (List Key×V)} {xs:List (List Key×Addr×Value)} (r:KT H kvs xs) (k:List Key) {b:Addr} {y:V} {u:Value} (hb:TupT H b (k.map kV)) (ry:RelV y u):
  KT H (putK kvs k y) (storedH xs k b u):=by
 have e:(kvs.any fun kv=>decide (kv.1=k))=(atKey xs k).isSome:=by
  rw [zdo,(r.val k).isSome_eq,Option.isSome_map]
 unfold putK storedH
 rw [e]
 by_cases q:(atKey xs k).isSome=true
 ·rw [if_pos q,if_pos q]; exact r.repl k ry
 ·rw [if_neg q,if_neg q]; exact Paired.snoc r ⟨rfl,hb,ry⟩
theorem KT.keeps {H H':Hp} {kvs:List (List Key×V)} {xs:List (List Key×Addr×Value)} (r:KT H kvs xs) (ht:∀ b ys,TupT H b ys->TupT H' b ys):KT H' kvs xs:=
 Paired.mapP r fun _ _ z=>⟨z.1,ht _ _ z.2.1,z.2.2⟩
section
variable {P:Program} {w:World} {H:Hp} {h:Heap} {a:Addr}
theorem zmu {u:HO} (ok:HOk P w H h) (e:Rd H a u):ObjOk P w H h a u:=e.ok ok
theorem zit {kvs:List (Key×V)} (ok:HOk P w H h) (e:Rd H a (.dK kvs)):kvs.length<=sizeLine /\ (a == sysModules)=false /\ ∃ vs,KV kvs vs /\ h.DictOf (mixKind P w) a vs:=
 show ObjOk P w H h a (.dK kvs) from zmu ok e
theorem zmR {kvs:List (Key×V)} (ok:HOk P w H h) (e:H a=some (.dK kvs)):kvs.length<=sizeLine /\ (a == sysModules)=false /\ ∃ vs,KV kvs vs /\ h.DictOf (mixKind P w) a vs:=zit ok (.inl e)
theorem zex {ks:List Key} (ok:HOk P w H h) (e:TupT H a (ks.map kV)):(tupleKind (mixKind P w)).is h ks a:=by
 obtain ⟨_,its,r,o,h1,h2,n,h3⟩:=(show ObjOk P w H h a (.tup (ks.map kV)) from Rd.ok e ok)
 exact ⟨o,its.toArray,n,h1,h2,h3,by simpa using zdV r⟩
theorem ziw {kvs:List (List Key×V)} (ok:HOk P w H h) (e:Rd H a (.dT kvs)):kvs.length<=sizeLine /\ (a == sysModules)=false /\
  ∃ xs,KT H kvs xs /\ h.DictOfH (tupleKind (mixKind P w)) a xs:=by
 obtain ⟨z,y,xs,r,o,es,ep,h1,h2,h3,h4,h5⟩:=(show ObjOk P w H h a (.dT kvs) from zmu ok e)
 refine ⟨z,y,xs,r,o,es,ep,h1,h2,h3,h4,fun x hx=>?_,h5⟩
 have all:∀ {l:List (List Key×V)} {m:List (List Key×Addr×Value)},KT H l m->∀ x∈m,(tupleKind (mixKind P w)).is h x.1 x.2.1:=by
  intro l m q
  induction q with
  | nil=>intro x hx; exact nomatch hx
  | @cons p q ps qs hq t ih=>
    intro x hx
    rcases List.mem_cons.mp hx with e | hx
    ·subst e
     exact zex ok (by rw [<- hq.1]; exact hq.2.1)
    ·exact ih x hx
 exact all r x hx
theorem zlq {kvs:List (List Key×V)} (ok:HOk P w H h) (e:H a=some (.dT kvs)):kvs.length<=sizeLine /\ (a == sysModules)=false /\
  ∃ xs,KT H kvs xs /\ h.DictOfH (tupleKind (mixKind P w)) a xs:=ziw ok (.inl e)
end
noncomputable def DGet (H:Hp) (a:Addr) (y:V) (r:Option V):Prop:=
 (∃ kvs k,Rd H a (.dK kvs) /\ y=kV k /\ r=valV kvs k) \/ ∃ kvs k b,Rd H a (.dT kvs) /\ y=.ref b /\ TupT H b (k.map kV) /\ r=valV kvs k
noncomputable def DPut (H:Hp) (a:Addr) (y v:V) (H':Hp):Prop:=
 (∃ kvs k,H a=some (.dK kvs) /\ y=kV k /\ kvs.length < sizeLine /\ H'=upd H a (.dK (putK kvs k v))) \/
 ∃ kvs k b,H a=some (.dT kvs) /\ y=.ref b /\ TupT H b (k.map kV) /\ kvs.length < sizeLine /\ H'=upd H a (.dT (putK kvs k v))
theorem DGet.t {H:Hp} {a b:Addr} {kvs:List (List Key×V)} {k:List Key} (e:H a=some (.dT kvs)) (eb:TupT H b (k.map kV)):DGet H a (.ref b) (valV kvs k):=.inr ⟨kvs,k,b,.inl e,rfl,eb,rfl⟩
theorem DPut.t {H:Hp} {a b:Addr} {kvs:List (List Key×V)} {k:List Key} {v:V} (e:H a=some (.dT kvs)) (eb:TupT H b (k.map kV)) (hl:kvs.length < sizeLine):
  DPut H a (.ref b) v (upd H a (.dT (putK kvs k v))):=.inr ⟨kvs,k,b,e,rfl,eb,hl,rfl⟩
section
variable {X:Cx} {pins:List (Addr×Obj)} {σ:St} {H:Hp} {s:Shared} {a:Addr} {y v:V} {u r:Value} {o:Option V} {A:Around} {E:Value->Shared->Prop}
theorem Inv.big (I:Inv X pins σ H s):sysModules < s.heap.objs.size:=by
 have h:mainGlobals < s.heap.objs.size:=(I.mod.glob.keeps I.bk).lt
 exact Nat.lt_trans (by decide) h
theorem zhe {Q:Value->Shared->Prop} (hu:A.units + 1 < cLine) (I:Inv X pins σ H s) (g:DGet H a y (some v)) (ry:RelV y u) (h:∀ w' s',Inv X pins σ H s'->RelV v w'->Q w' s'):
  wpAny (model X.prog X.w) A (getItem (.ref a) u) Q E s:=by
 rcases g with ⟨kvs,k,e,ey,l⟩ | ⟨kvs,k,b,e,ey,eb,l⟩
 ·subst ey
  obtain ⟨z,hd,vs,rel,dd⟩:=zit I.hok e
  obtain ⟨w',hw,rw'⟩:=RelO.some_of (v:=v) (o:=valueAt vs k) (by rw [l]; exact rel.val k)
  exact wpAny_getItem_of (ziJ ry) dd.mapOf hw (h w' _ (I.tok _) rw')
 ·subst ey
  cases (show u=Value.ref b from ry)
  obtain ⟨z,hd,xs,rel,dd⟩:=ziw I.hok e
  obtain ⟨w',hw,rw'⟩:=RelO.some_of (v:=v) (o:=(atKey xs k).map (·.2)) (by rw [l]; exact rel.val k)
  obtain ⟨p,hp,hp2⟩:=Option.map_eq_some_iff.mp hw
  refine wpAny_getItem_heap (tupleKind_room_in1 hu) (zex I.hok eb) dd hp ?_
  rw [hp2]
  exact h w' _ (I.tok _) rw'
theorem ze3 {h':Heap} {t':Nat} {ob:HO} (I:Inv X pins σ H s) (mu:Mut (H a)) (hs:Heap.SameBut a s.heap h') (he:∃ q,h'.get? a=some q) (new:ObjOk X.prog X.w (upd H a ob) h' a ob):
  Inv X pins σ (upd H a ob) { s with heap:=h',toks:=t' }:=
 I.write (x:=a) (e:=a) mu (.inl rfl) (fun b q hb z=>(hs.2 b hb).trans z) he new
theorem zln {P:Program} {w:World} {H':Hp} {h':Heap} {kvs:List (Key×V)} {vs:List (Key×Value)} (z:kvs.length<=sizeLine) (hd:(a == sysModules)=false) (rel:KV kvs vs) (dd:h'.DictOf (mixKind P w) a vs):
  ObjOk P w H' h' a (.dK kvs):=⟨z,hd,vs,rel,dd⟩
theorem zhm {H':Hp} {Q:Unit->Shared->Prop} (hu:A.units + 1 < cLine) (I:Inv X pins σ H s) (g:DPut H a y v H') (ry:RelV y u) (rv:RelV v r) (h:∀ s',Inv X pins σ H' s'->Q () s'):
  wpAny (model X.prog X.w) A (setItem (.ref a) u r) Q E s:=by
 rcases g with ⟨kvs,k,e,ey,l,eH⟩ | ⟨kvs,k,b,e,ey,eb,l,eH⟩
 ·subst ey eH
  obtain ⟨z,hd,vs,rel,dd⟩:=zmR I.hok e
  have hz:vs.length<=sizeLine:=by rw [<- rel.length]; exact z
  have hl:(putK kvs k v).length<=sizeLine:=by have:=zcs kvs k v; omega
  refine wpAny_setItem_pairs (hsz:=hz) (ziJ ry) dd fun h' dd' hs=>h _ ?_
  have he:∃ q,h'.get? a=some q:=let ⟨q,_,_,hq,_⟩:=dd'; ⟨q,hq⟩
  exact ze3 I (by rw [e]; exact True.intro) hs he (zln hl hd (rel.put k rv) dd')
 ·subst ey eH
  cases (show u=Value.ref b from ry)
  obtain ⟨z,hd,xs,rel,dd⟩:=zlq I.hok e
  have hz:xs.length<=sizeLine:=by rw [<- Paired.length rel]; exact z
  have hl:(putK kvs k v).length<=sizeLine:=by have:=zcs kvs k v; omega
  refine wpAny_setItem_heap (hsz:=hz) (tupleKind_room_in1 hu) (zex I.hok eb) dd fun h' dd' hs=>h _ ?_
  obtain ⟨q,es,ep,hq,h2,h3,h4,_,h5⟩:=dd'
  refine ze3 I (by rw [e]; exact True.intro) hs ⟨q,hq⟩ ⟨hl,hd,_,(rel.put k eb rv).keeps fun c ys ec=>?_,q,es,ep,hq,h2,h3,h4,h5⟩
  exact ec.dT e
end
section
variable {X:Cx} {pins:List (Addr×Obj)} {σ:St} {H:Hp} {s:Shared} {a:Addr} {kvs:List (Key×V)} {k:Key} {u:Value} {A:Around} {E:Value->Shared->Prop}
end
noncomputable def NoSl (i:Expr):Prop:=∀ ov iv,subscripted i false ov iv=operate [ov,iv] (getItem ov iv)
theorem zkZ {prog:Program} {w:World} {A:Around} {E:Value->Shared->Prop} {s:Shared} {env:Env} {value slice:Expr} {pos:Pos} {T id:String} {Q:Value->Shared->Prop}
  (hl:typeLookup (.type T) "__getitem__"=pure (some (.builtin id))) (hs:NoSl slice)
  (h:wpAny (model prog w) A (eval value env) (fun o s₁=>wpAny (model prog w) A (eval slice env) (fun i s₂=>s₂.TypeIs o T /\ wpAny (model prog w) A (getItem o i) Q E s₂) E s₁) E s):
  wpAny (model prog w) A (eval (.Subscript value slice pos) env) Q E s:=by
 refine Subscript_ (wpAny_mono h (fun o s₁ h₁=>wpAny_mono h₁ (fun i s₂ h₂=>?_) fun _ _ x=>x) fun _ _ x=>x)
 obtain ⟨hT,h₂⟩:=h₂
 unfold subscriptTail
 refine wpAny_bind ?_
 rw [getitemInPython_of_ne hT.not_modules]
 refine wpAny_bind (wpAny_specialOf hT hl ?_)
 have fin:wpAny (model prog w) A (subscripted slice false o i) (fun r s₃=>wpAny (model prog w) A (letTemporaryGo value o r >>= fun _=>pure r) Q E s₃) E s₂:=by
  rw [hs o i]
  exact wpAny_operating (wpAny_mono h₂ (fun r s₃ h₃=>wpAny_bind (wpAny_letTemporaryGo (wpAny_pure h₃))) fun _ _ x=>x)
 first
  | exact wpAny_pure (wpAny_bind fin)
  | exact wpAny_bind (wpAny_pure (wpAny_bind fin))
  | exact wpAny_bind fin
theorem zfk {X:Cx} {pins:List (Addr×Obj)} {σ:St} {H:Hp} {s:Shared} {a:Addr} {y:V} {o:Option V} (I:Inv X pins σ H s) (g:DGet H a y o):s.TypeIs (.ref a) "dict":=by
 rcases g with ⟨kvs,k,e,_,_⟩ | ⟨kvs,k,b,e,_,_,_⟩
 ·obtain ⟨_,_,vs,_,dd⟩:=zit I.hok e
  exact dd.typeIs
 ·obtain ⟨_,_,xs,_,dd⟩:=ziw I.hok e
  exact dd.typeIs
noncomputable def tDGet (td ty:TE):TE:=fun σ H Q=>td σ H fun x H1=>ty σ H1 fun y H2=>∃ a v,x=.ref a /\ DGet H2 a y (some v) /\ Q v H2
noncomputable def sDPut (td ty tv:TE):TS:=fun D σ H=>tv σ H fun v H1=>td σ H1 fun x H2=>ty σ H2 fun y H3=>∃ a H4,x=.ref a /\ DPut H3 a y v H4 /\ D.nx σ H4
section
variable {X:Cx} {o i e value:Expr} {pos pos' tpos:Pos} {td ty tv:TE}
theorem zkS (hu:X.A.units + 1 < cLine) (ho:PE X o td) (hi:PE X i ty) (hs:NoSl i):PE X (.Subscript o i pos) (tDGet td ty):=by
 intro pins s σ H Q I h
 refine zkZ PySem.F.slot_dict_getitem.lookup hs (thn (ho pins s σ H _ I h) fun u s1 ⟨x,H1,I1,rx,q1⟩=>thn (hi pins s1 σ H1 _ I1 q1) fun iv s2 ⟨y,H2,I2,ry,a,v,ex,g,q2⟩=>?_)
 subst ex
 obtain rfl:u=Value.ref a:=rx
 exact ⟨zfk I2 g,zhe hu I2 g ry fun w' s3 I3 rw'=>⟨v,H2,I3,rw',q2⟩⟩
theorem zhg (hu:X.A.units + 1 < cLine) (ho:PE X o td) (hi:PE X i ty) (hv:PE X value tv) (hs:swapsWith value (some (.Subscript o i pos')) pos.line X.env=pure false):
  PS X (.Assign [.Subscript o i pos'] value pos) (sDPut td ty tv):=by
 intro pins s σ H D I h
 refine wpAny_Assign_Subscript (thn (hv pins s σ H _ I h) fun r s1 ⟨v,H1,I1,rv,q1⟩=>thn (ho pins s1 σ H1 _ I1 q1) fun u s2 ⟨x,H2,I2,rx,q2⟩=>thn (hi pins s2 σ H2 _ I2 q2) fun iv s3 ⟨y,H3,I3,ry,a,H4,ex,g,q3⟩=>?_) hs
 subst ex
 obtain rfl:u=Value.ref a:=rx
 exact zhm hu I3 g ry rv fun s4 I4=>⟨σ,H4,I4,q3⟩
end
theorem zjk {P:Program} {w:World} {H:Hp} (h:Heap) (hb:sysModules < h.objs.size):ObjOk P w H (h.push { cls:=.type "dict",data:=.dict #[] }) h.objs.size (.dT []):=
 ⟨Nat.zero_le _,beq_eq_false_iff_ne.mpr (Ne.symm (Nat.ne_of_lt hb)),[],.nil,_,#[],0,Heap.get?_push_size _ rfl,⟨rfl,rfl,rfl⟩,rfl,rfl,List.nodup_nil⟩
section
variable {X:Cx} {pos:Pos}
end
noncomputable def tPairs:List (TE×TE)->St->Hp->(List (V×V)->Hp->Prop)->Prop
 | [],_,H,Q=>Q [] H
 | (tk,tv) :: r,σ,H,Q=>tk σ H fun x H1=>tv σ H1 fun y H2=>tPairs r σ H2 fun ps H3=>Q ((x,y) :: ps) H3
noncomputable abbrev VV:List (V×V)->List (Value×Value)->Prop:=Paired fun p q=>RelV p.1 q.1 /\ RelV p.2 q.2
noncomputable def PPs (X:Cx) (pos:Pos) (keys:List (Option Expr)) (values:List Expr) (trs:List (TE×TE)):Prop:=
 ∀ (pins:List (Addr×Obj)) (s:Shared) (σ:St) (H:Hp) (Q:List (V×V)->Hp->Prop),Inv X pins σ H s->tPairs trs σ H Q->
   wpAny (model X.prog X.w) X.A (evalPairs (pairTrees keys values X.env pos)) (fun vs s'=>∃ ps H',Inv X pins σ H' s' /\ VV ps vs /\ Q ps H') X.xe s
theorem zke {X:Cx} {pos:Pos}:PPs X pos [] [] []:=fun pins s σ H Q I h=>pairTrees_nil_walk ⟨[],H,I,.nil,h⟩
theorem ziZ {X:Cx} {pos:Pos} {k v:Expr} {ks:List (Option Expr)} {vs:List Expr} {tk tv:TE} {trs:List (TE×TE)} (hk:PE X k tk) (hv:PE X v tv) (hr:PPs X pos ks vs trs):
  PPs X pos (some k :: ks) (v :: vs) ((tk,tv) :: trs):=fun pins s σ H Q I h=>
 pairTrees_cons_walk (thn (hk pins s σ H _ I h) fun u s1 ⟨x,H1,I1,rx,q1⟩=>thn (hv pins s1 σ H1 _ I1 q1) fun w2 s2 ⟨y,H2,I2,ry,q2⟩=>
  thn (hr pins s2 σ H2 _ I2 q2) fun ws s3 ⟨ps,H3,I3,rel,q3⟩=>⟨(x,y) :: ps,H3,I3,.cons ⟨rx,ry⟩ rel,q3⟩)
structure M2 (X:Cx) (o:Expr) (m:Str) (apos:Pos) (e f:Expr) (cpos:Pos):Prop where
 base:attributeBase o m X.env (eval o X.env)=eval o X.env
 few:((backTo cpos (starEach [e,f] X.env)).all (fun x=> !x.1) && (backToKw cpos (keywordEach [] X.env)).all (fun x=>x.1.isSome)
  && decide (([e,f]:List Expr).length + ([]:List Keyword).length + (if ([]:List Keyword).isEmpty then 0 else 1) < 30))=true
 line:(apos.endLine == cpos.line)=true
 trees:backTo cpos (starEach [e,f] X.env)=[(false,eval e X.env),(false,eval f X.env)]
noncomputable def IsDct (H:Hp) (a:Addr):Prop:=(∃ kvs,Rd H a (.dK kvs)) \/ ∃ kvs,Rd H a (.dT kvs)
theorem zl2 {X:Cx} {pins:List (Addr×Obj)} {σ:St} {H:Hp} {s:Shared} {a:Addr} (I:Inv X pins σ H s) (d:IsDct H a):
  s.TypeIs (.ref a) "dict" /\ (∀ b,Value.ref a=.ref b->∃ ob,s.heap.get? b=some ob /\ ob.dict=none) /\ (a == sysModules)=false:=by
 rcases d with ⟨kvs,e⟩ | ⟨kvs,e⟩
 ·obtain ⟨_,hd,vs,_,dd⟩:=zit I.hok e
  refine ⟨dd.typeIs,fun b q=>?_,hd⟩
  cases q
  obtain ⟨ob,_,_,h1,h2,_⟩:=dd
  exact ⟨ob,h1,h2.2.1⟩
 ·obtain ⟨_,hd,xs,_,dd⟩:=ziw I.hok e
  refine ⟨dd.typeIs,fun b q=>?_,hd⟩
  cases q
  obtain ⟨ob,_,_,h1,h2,_⟩:=dd
  exact ⟨ob,h1,h2.2.1⟩
section
variable {X:Cx} {pins:List (Addr×Obj)} {σ:St} {H:Hp} {s:Shared} {a:Addr} {y d:V} {u r:Value} {o:Option V} {A:Around} {E:Value->Shared->Prop}
theorem zmd {Q:Value->Shared->Prop} (hu:A.units + 1 < cLine) (I:Inv X pins σ H s) (g:DGet H a y o) (ry:RelV y u) (rd:RelV d r) (h:∀ w' s',Inv X pins σ H s'->RelV (o.getD d) w'->Q w' s'):
  wpAny (model X.prog X.w) A (call (.builtin "dict.get") [.ref a,u,r]) Q E s:=by
 rcases g with ⟨kvs,k,e,ey,l⟩ | ⟨kvs,k,b,e,ey,eb,l⟩
 ·subst ey
  obtain ⟨z,hd,vs,rel,dd⟩:=zit I.hok e
  refine call_meetsIn PySem.F.slot_dict_get dd.typeIs PySem.F.entry_dict_get (PySem.F.args_dict_get_3 _ _ _) (meets_dict_get_default (mixKind X.prog X.w) a (ziJ ry) hd r) ⟨_,dd.mapOf,h _ _ (I.tok _) ?_⟩
  rw [l]
  exact (rel.val k).getD rd
 ·subst ey
  cases (show u=Value.ref b from ry)
  obtain ⟨z,hd,xs,rel,dd⟩:=ziw I.hok e
  refine call_meetsIn PySem.F.slot_dict_get dd.typeIs PySem.F.entry_dict_get (PySem.F.args_dict_get_3 _ _ _) (meetsH_dict_get_default (tupleKind (mixKind X.prog X.w)) a b hd r) ⟨tupleKind_room_in1 hu,k,xs,zex I.hok eb,dd,h _ _ (I.tok _) ?_⟩
  rw [l]
  exact (rel.val k).getD rd
end
noncomputable def tDGet2 (td ty tx:TE):TE:=fun σ H Q=>td σ H fun x H1=>∃ a,x=.ref a /\ IsDct H1 a /\ ty σ H1 fun y H2=>tx σ H2 fun z H3=>∃ o,DGet H3 a y o /\ Q (o.getD z) H3
section
variable {X:Cx} {o e f:Expr} {apos cpos:Pos} {td ty tx:TE}
theorem ziO (hu:X.A.units + 1 < cLine) (ho:PE X o td) (he:PE X e ty) (hf:PE X f tx) (m:M2 X o "get" apos e f cpos):PE X (.Call (.Attribute o "get" apos) [e,f] [] cpos) (tDGet2 td ty tx):=by
 intro pins s σ H Q I h
 refine wpAny_Call_method m.base m.few m.line PySem.F.plainAttrs_dict PySem.F.slot_dict_get PySem.F.type_dict_get (thn (ho pins s σ H _ I h) fun u s1 ⟨x,H1,I1,rx,a,ex,d,q1⟩=>?_)
 subst ex
 obtain rfl:u=Value.ref a:=rx
 obtain ⟨t1,t2,_⟩:=zl2 I1 d
 refine ⟨t1,t2,?_⟩
 rw [m.trees]
 refine Calls.callWith_builtin rfl (Calls.evalArgs_plain (Calls.spliced_cons (thn (he pins s1 σ H1 _ I1 q1) fun iv s2 ⟨y,H2,I2,ry,q2⟩=>
  Calls.spliced_cons (thn (hf pins s2 σ H2 _ I2 q2) fun fv s3 ⟨z,H3,I3,rz,ov,g,q3⟩=>Calls.spliced_nil ?_))))
 exact zmd hu I3 g ry rz fun w' s4 I4 rw'=>⟨_,H3,I4,rw',q3⟩
end
end L2
set_option maxHeartbeats 4000000
namespace L2
open PySem PySem.Spec PyProof.Rows
section
variable {X:Cx}
theorem zbY:OpR X (binaryOp .Mult) (rI IntMulOk fun i j=>.int (i * j)):=opI fun _ _ _ _ _ _ _ hc q=>mul_int q hc
noncomputable def CDivS (i j:Int):Prop:=j≠0 /\ Builtin.divisionGoesByPylong i j=false
theorem zby:OpR X (binaryOp .FloorDiv) (rI CDivS fun i j=>.int (i.fdiv j)):=opI fun _ _ _ _ _ _ _ hc q=>floordiv_int hc.1 q (.inl hc.2)
theorem zil {i j:Int} (h:Builtin.Int.intBits j<=9000):Builtin.divisionGoesByPylong i j=false:=by
 refine PyProof.noPylong_of_log2 ?_
 unfold Builtin.Int.intBits at h
 by_cases hj:j=0
 ·subst hj; decide +kernel
 ·rw [if_neg (by simpa using hj)] at h
  omega
theorem zaS {i j:Int} (h1: -(2 ^ 64) < j) (h2:j < 2 ^ 64):IntMulOk i j:=.of_right (intBits_le_64 h1 h2)
noncomputable def TyW (K:PySem.W.Frag) (H:Hp) (x:V) (t:String):Prop:=
 TyOf K H x (.type t) \/ (∃ a xs,x=.ref a /\ SqT K H a xs /\ t="tuple") \/ (∃ a xs,x=.ref a /\ SqL K H a xs /\ t="list")
noncomputable def rIsi (K:PySem.W.Frag):List V->Hp->VK->Prop:=fun xs H Q=>∃ x n t b,xs=[x,.ty n] /\ TyW K H x t /\ PySem.W.kitOne K (.type t) (.type n)=some b /\ Q (.bl b) H
theorem ziU:CallR X (.builtin "isinstance") (rIsi X.K):=by
 intro pins s σ H xs us Q I r h
 obtain ⟨x,n,t,b,rfl,ty,e,q⟩:=h
 obtain ⟨u1,u2,rfl,r1,r2⟩:∃ u1 u2,us=[u1,u2] /\ RelV x u1 /\ RelV (.ty n) u2:=by
  cases r with
  | cons p q=>cases q with
    | cons p' q'=>cases q'; exact ⟨_,_,rfl,p,p'⟩
 cases (show u2=Value.type n from r2)
 have fin:∀ tk,EP X pins σ Q (.bool b) { s with toks:=tk }:=fun tk=>⟨.bl b,H,I.tok _,rfl,q⟩
 rcases ty with ty | ⟨a,ys,rfl,hq,rfl⟩ | ⟨a,ys,rfl,hq,rfl⟩
 ·exact zhQ I r1 ty e fin
 ·cases (show u1=Value.ref a from r1)
  obtain ⟨its,_,p,_⟩:=I.tuple hq
  obtain ⟨o,h1,h2,_⟩:=p
  exact PySem.W.kia_one PySem.W.kitx_tuple I.kIn ⟨o,h1,h2⟩ e (fun z=>nomatch z) fin
 ·cases (show u1=Value.ref a from r1)
  obtain ⟨its,_,p,_⟩:=I.list hq
  obtain ⟨o,n,h1,h2,_⟩:=p
  exact PySem.W.kia_one PySem.W.kitx_list I.kIn ⟨o,h1,h2⟩ e (fun z=>nomatch z) fin
theorem ziW {K:PySem.W.Frag} {t:String}:PySem.W.kitOne K (.type t) (.type t)=some true:=by
 unfold PySem.W.kitOne
 rw [if_pos (by simp)]
noncomputable def Dn (P:Program) (w:World) (K:PySem.W.Frag) (mg:Str->Option Value) (base:Heap) (k:Nat) (x:Str) (ps:List Str) (sp:Sp):Prop:=
 ∃ f fd,FnOk P w K mg base CX0 k f fd ps sp /\ mg x=some (.ref f) /\ PySem.W.keepIn K (.ref f)=true /\ Binds K fd ps []
theorem zmg {k kk:Nat} {x:Str} {ps:List Str} {sp:Sp} {e:Expr} {es:List Expr} {t:TA} {p pos:Pos} (D:Dn X.prog X.w X.K X.mg X.base k x ps sp) (hr:Room kk X.A) (hk:k<=kk) (ha:PA X (e :: es) t) (hg:Gl X x:=by rfl)
  (hdb:(x == ("__debug__":Str))=false:=by decide) (he:starEach (e :: es) X.env=(false,eval e X.env) :: starEach es X.env:=by rfl) (hpl:(backTo pos (starEach es X.env)).any (·.1)=false:=by rfl):
  PE X (.Call (.Name x p) (e :: es) [] pos) (tCall sp [] E0 t):=by
 obtain ⟨f,fd,F,m,kp,b⟩:=D
 exact zgS F (hr.mono hk) hg m kp b .nil pass0 ha hdb he hpl
structure Bs (mg:Str->Option Value):Prop where
 len:mg "len"=none
 range:mg "range"=none
 isinstance:mg "isinstance"=none
 max:mg "max"=none
 min:mg "min"=none
 int:mg "int"=none
 bool:mg "bool"=none
 tuple:mg "tuple"=none
 list:mg "list"=none
 abs:mg "abs"=none
 str:mg "str"=none
 sum:mg "sum"=none
 sorted:mg "sorted"=none
 reversed:mg "reversed"=none
 enumerate:mg "enumerate"=none
 set:mg "set"=none
 all:mg "all"=none
 zip:mg "zip"=none
 any:mg "any"=none
noncomputable def Df (K:PySem.W.Frag) (mg:Str->Option Value) (x:Str) (st:Stmt) (ps:List Str):Prop:=∃ f fd,Fun K x x st f fd /\ mg x=some (.ref f) /\ Binds K fd ps []
theorem Df.ok {P:Program} {w:World} {K:PySem.W.Frag} {mg:Str->Option Value} {base:Heap} {x:Str} {st:Stmt} {N ps:List Str} {k:Nat} {sp:Sp} (F:Df K mg x st ps) (S:FnScope N ps (defScope st)) (len:∀ vs H Q E,sp vs H Q E->vs.length=ps.length)
  (hbody:∀ (f:Addr) (cdv:Value) (A:Around) (outer:List Env) (s:Shared) (H:Hp) (vs:List V) (Q:VK) (E:XK),Room k (A.deeper (envOfC x (defScope st) s.heap.objs.size f cdv))->sp vs H Q E->
   ∃ t,PSs (cxOf CX0 P w K mg base N x (defScope st) f cdv A outer s H E).nox (defBody st) t /\ t { nx:=fun _ H'=>Q .non H',rt:=Q } (start N vs) H):Dn P w K mg base (k + 1) x ps sp:=by
 obtain ⟨f,fd,F,m,b⟩:=F
 exact ⟨f,fd,F.ok S len (hbody f),m,F.kp,b⟩
noncomputable def Cn (mg:Str->Option Value) (x:Str) (v:V):Prop:=∃ u,mg x=some u /\ RelV v u
theorem zl5 {x:Str} {v:V} {pos:Pos} (c:Cn X.mg x v) (hg:Gl X x:=by rfl) (hd:(x == ("__debug__":Str))=false:=by decide):PE X (.Name x pos) (tC v):=by
 obtain ⟨u,m,r⟩:=c
 exact zkP hg m r hd
end
theorem zI {H:Hp} {p:Addr} (h:H p=none) (o:HO):Same H (upd H p o):=fun b u q=>by rw [zn (zv q h)]; exact q
theorem Same.tup {K:PySem.W.Frag} {H H':Hp} {a:Addr} {xs:List V} (e:Same H H') (h:SqT K H a xs):SqT K H' a xs:=by
 rcases h with (h | ⟨o,h⟩) | h
 ·exact .inl (.inl (e _ _ h))
 ·exact .inl (.inr ⟨o,e _ _ h⟩)
 ·exact .inr h
theorem small {n:Nat} (h:n<=100000):n<=sizeLine:=Nat.le_trans h (by decide)
theorem small' {n:Nat} (h:n<=100000):n < sizeLine:=Nat.lt_of_le_of_lt h (by decide)
end L2
namespace L2
open PySem PySem.Spec PyProof.Rows
section
variable {X:Cx}
end
theorem Same.upd {H H':Hp} {l:Addr} (s:Same H H') (h:H l=none) (o:HO):Same H (upd H' l o):=fun b u q=>by rw [zn (zv q h)]; exact s b u q
end L2
namespace L2
open PySem PySem.Spec PyProof.Rows
theorem zlT:bootBuiltins "int"=some (.type "int"):=by decide +kernel
theorem zf1:bootBuiltins "tuple"=some (.type "tuple"):=by decide +kernel
theorem zeP:bootBuiltins "list"=some (.type "list"):=by decide +kernel
theorem zmr:bootBuiltins "str"=some (.type "str"):=by decide +kernel
theorem zaJ:bootBuiltins "len"=some (.builtin "len"):=by decide +kernel
theorem zlS:bootBuiltins "abs"=some (.builtin "abs"):=by decide +kernel
theorem zmf:bootBuiltins "max"=some (.builtin "max"):=by decide +kernel
theorem zbK:bootBuiltins "isinstance"=some (.builtin "isinstance"):=by decide +kernel
section
variable {X:Cx}
end
end L2
namespace L2
open PySem PySem.Spec PyProof.Rows
section
variable {X:Cx}
end
end L2
namespace L2
open PySem PySem.Spec PyProof.Rows
section
variable {X:Cx}
theorem zc3 {scope:Scope} {env:Env} (h:∀ y∈scope.names,y.2=.free->∃ c,env.cells.lookup y.1=some c):
  ∃ cl:List (Str×Addr),closureFor scope env=pure cl /\ (∀ n c,cl.lookup n=some c->env.cells.lookup n=some c) /\ ∀ n,(n,NameKind.free)∈scope.names->∃ c,cl.lookup n=some c:=by
 have go:∀ (l:List (Str×NameKind)) (cs:List (Str×Addr)),(∀ y∈l,y.2=.free->∃ c,env.cells.lookup y.1=some c)->(∀ n c,cs.lookup n=some c->env.cells.lookup n=some c)->
   ∃ cl:List (Str×Addr),(forIn l cs fun x r=>(match x with | (name,kind)=>if (kind == NameKind.free)=true then (do let a <- cellOf env name; pure (ForInStep.yield ((name,a) :: r))) else pure (ForInStep.yield r):Sem (ForInStep (List (Str×Addr)))))=(pure cl:Sem _) /\
     (∀ n c,cl.lookup n=some c->env.cells.lookup n=some c) /\ (∀ n,(n,NameKind.free)∈l->∃ c,cl.lookup n=some c) /\ ∀ n c,cs.lookup n=some c->∃ c',cl.lookup n=some c':=by
  intro l
  induction l with
  | nil=>intro cs _ hc; exact ⟨cs,rfl,hc,fun n hn=>by simp at hn,fun n c e=>⟨c,e⟩⟩
  | cons y r ih=>
    intro cs hl hc
    obtain ⟨name,kind⟩:=y
    by_cases hk:kind=.free
    ·subst hk
     obtain ⟨c,e⟩:=hl (name,.free) List.mem_cons_self rfl
     have hc':∀ n d,((name,c) :: cs).lookup n=some d->env.cells.lookup n=some d:=by
      intro n d q
      rw [List.lookup_cons] at q
      cases hb:n == name with
      | true=>rw [hb] at q; cases q; rw [eq_of_beq hb]; exact e
      | false=>rw [hb] at q; exact hc n d q
     obtain ⟨cl,h1,h2,h3,h4⟩:=ih ((name,c) :: cs) (fun y hy=>hl y (List.mem_cons_of_mem _ hy)) hc'
     refine ⟨cl,?_,h2,fun n hn=>?_,fun n d q=>?_⟩
     ·rw [List.forIn_cons]
      have ec:cellOf env name=pure c:=by unfold cellOf; rw [e]
      simp only [beq_self_eq_true,if_true,ec,pure_bind]
      exact h1
     ·rcases List.mem_cons.mp hn with z | z
      ·cases z
       exact h4 name c (by rw [List.lookup_cons]; simp)
      ·exact h3 n z
     ·by_cases hb:n == name
      ·exact h4 n c (by rw [List.lookup_cons,hb])
      ·exact h4 n d (by rw [List.lookup_cons]; simp only [hb]; exact q)
    ·obtain ⟨cl,h1,h2,h3,h4⟩:=ih cs (fun y hy=>hl y (List.mem_cons_of_mem _ hy)) hc
     refine ⟨cl,?_,h2,fun n hn=>?_,h4⟩
     ·rw [List.forIn_cons]
      have eb:(kind == NameKind.free)=false:=by simpa using hk
      simp only [eb,Bool.false_eq_true,if_false,pure_bind]
      exact h1
     ·rcases List.mem_cons.mp hn with z | z
      ·cases z; exact absurd rfl hk
      ·exact h3 n z
 obtain ⟨cl,h1,h2,h3,_⟩:=go scope.names [] h (fun n c e=>by simp at e)
 refine ⟨cl,?_,h2,h3⟩
 simp only [closureFor]
 rw [h1]
 rfl
noncomputable def compCx (X:Cx) (scope:Scope) (N':List Str) (cl:List (Str×Addr)) (C:Addr) (s2:Shared) (H2:Hp) (fp:List Addr) (pins:List (Addr×Obj)):Cx:=
 { X with N:=N',s₀:=s2,H₀:=H2,env:=compEnvC scope cl C X.env,outer:=X.stack,stack:=X.stack,ex:=fp,fn:=fun _=>false,pn:=X.pn ++ pins,xe:=fun _ _=>False }
noncomputable def capt (ix:List Nat) (σ:St):St:=ix.map fun j=>(σ[j]?).join
section
variable {scope:Scope} {x:Str} {ix:List Nat} {N':List Str} {cl:List (Str×Addr)} {C:Addr} {s2 s3:Shared} {H2:Hp} {fp:List Addr} {pins:List (Addr×Obj)} {σ:St}
theorem ziI {j:Nat} {v:V} (h:(capt ix σ)[j]?=some (some v)):∃ i,ix[j]?=some i /\ σ[i]?=some (some v):=by
 unfold capt at h
 rw [List.getElem?_map] at h
 cases e:ix[j]? with
 | none=>rw [e] at h; cases h
 | some i=>
   rw [e] at h
   have h':(σ[i]?).join=some v:=Option.some.inj h
   refine ⟨i,rfl,?_⟩
   cases q:σ[i]? with
   | none=>rw [q] at h'; cases h'
   | some w=>rw [q] at h'; rw [show w=some v from h']
noncomputable abbrev lob (its:List Value) (n:Nat):Obj:={ cls:=.type "list",data:=.seq its.toArray n }
theorem Inv.track {X:Cx} {pins:List (Addr×Obj)} {σ:St} {H:Hp} {s:Shared} {D:Addr} {ys:List V} {its:List Value} {n:Nat} (I:Inv X pins σ H s) (hD:H D=none) (hs:X.s₀.heap.objs.size<=D) (hl:D≠X.env.locals) (hc:∀ x c,X.env.cells.lookup x=some c->c≠D)
  (hp:∀ p∈X.pn ++ pins,p.1≠D) (e:s.heap.get? D=some (lob its n)) (r:Vals ys its) (hz:ys.length<=sizeLine):Inv X pins σ (upd H D (.lst ys)) s:=by
 have h:=I.step (H':=upd H D (.lst ys)) (h':=s.heap) (g':=s.gens) (t':=s.toks) (d':=s.drawn) (ch:=[D]) (fun b hb=>by
   have e:b=D:=by simpa using hb
   subst e
   exact ⟨.inr hs,hl,hc,hp⟩)
  (fun b o _ _ _ q _=>q) (fun b o _ _ _ q _=>⟨o.slots,q⟩) (fun b o hb _ q=>by rw [zn (by simpa using hb)]; exact q) (fun b o _ q=>⟨o,q⟩)
  (fun b xs q=>by rw [zn (zv q hD)]; exact q) (fun b o u q=>by rw [zn (zv q hD)]; exact q) (fun b ps q=>⟨#[],by rw [zn (zv q hD),Array.append_empty]; exact q⟩) (fun m hm=>hm) (fun b u q=>?_) I.bare
 ·exact h
 ·by_cases hb:b=D
  ·subst hb
   rw [zG] at q; cases q
   exact ⟨hz,its,n,r,e⟩
  ·rw [zn hb] at q
   exact (I.hok b u q).stay (fun _ _ _ z=>z) (fun c z=>by rw [zn (zv z hD)]; exact z) fun c xs z=>z.new hD
theorem zhP (I0:Inv X pins σ H2 s2) (hC:s2.heap.objs.size<=C) {D:Addr} (hD:s2.heap.objs.size<=D) (hf:∀ b∈fp,FpOk X pins H2 b) {σ':St} {H:Hp} {s1:Shared} {ys:List V} {its:List Value} {n:Nat} {more:List (Addr×Obj)}
  (I:Inv (compCx X scope N' cl C s2 H2 fp pins) ((D,lob its n) :: more) σ' H s1) (r:Vals ys its) (hz:ys.length<=sizeLine) {h':Heap} (hs:Heap.SameBut C s1.heap h') (hDC:D≠C):
  Inv X pins σ (upd H D (.lst ys)) { s1 with heap:=h' }:=by
 have nC:∀ b o,s2.heap.get? b=some o->b≠C:=fun b o e=>Nat.ne_of_lt (Nat.lt_of_lt_of_le (Heap.lt_size e) hC)
 have B:Un (frs X.stack) fp H2 H s2.heap s1.heap:=I.base
 have fC:H C=none:=I.free
 have pD:=I.pin (D,lob its n) (List.mem_append_right _ List.mem_cons_self)
 have u:Un (frs X.stack) fp H2 H s2.heap h':=⟨fun b o e n hb hx=>(hs.2 b (nC b o e)).trans (B.keep b o e n hb hx),fun b o e n hb hx=>by
   obtain ⟨sl,q⟩:=B.slot b o e n hb hx
   exact ⟨sl,(hs.2 b (nC b o e)).trans q⟩,B.free,fun b o e hx=>by
   obtain ⟨o',q⟩:=B.there b o e hx
   exact ⟨o',(hs.2 b (nC b o e)).trans q⟩,B.tups,B.frzs,B.tbls⟩
 have hok:HOk X.prog X.w H h':=fun b o e=>(I.hok b o e).stay (fun c v hc q=>(hs.2 c (by
   rintro rfl
   rcases hc with z | z
   ·subst z; rw [fC] at e; cases e
   ·rw [fC] at z; cases z)).trans q) (fun _ q=>q) fun _ _ q=>q
 have I1:Inv X pins σ H { s1 with heap:=h' }:=I0.call' (s':={ s1 with heap:=h' }) (ch:=fp) I.os u hok I.bare fun b hb=>⟨(hf b hb).2.2.2.1,(hf b hb).2.1,(hf b hb).2.2.2.2.1,(hf b hb).2.2.2.2.2⟩
 refine I1.track (its:=its) (n:=n) pD.2.1 (Nat.le_trans I0.sz hD) (Nat.ne_of_gt (Nat.lt_of_lt_of_le I0.lt hD)) (fun a c e z=>?_) (fun p hp z=>?_) ((hs.2 D hDC).trans pD.1) r hz
 ·obtain ⟨v,q⟩:=I0.cell a c e
  exact absurd (Nat.lt_of_lt_of_le q.lt (by rw [z]; exact hD)) (Nat.lt_irrefl _)
 ·exact absurd (Nat.lt_of_lt_of_le (Heap.lt_size (I0.pin p hp).1) (by rw [z]; exact hD)) (Nat.lt_irrefl _)
end
section
variable {scope:Scope} {x:Str} {ix:List Nat} {N':List Str} {elt iter:Expr} {px pos:Pos} {wi:TI} {te:TE}
end
noncomputable def relN (sc scope:Scope):List (Str×NameKind):=scope.names.map fun (n,k)=>if (k == .free && sc.kind == .function && sc.names.lookup n == some .cell) then (n,.cell) else (n,k)
theorem zcb {n:Str} {k:NameKind}:∀ {l:List (Str×NameKind)},l.lookup n=some k->(n,k)∈l
 | [],h=>by simp at h
 | (a,b) :: r,h=>by
   rw [List.lookup_cons] at h
   cases e:n == a with
   | true=>rw [e] at h; cases h; rw [eq_of_beq e]; exact List.mem_cons_self
   | false=>rw [e] at h; exact List.mem_cons_of_mem _ (zcb h)
section
variable {scope:Scope} {x:Str} {elt iter:Expr} {px pos:Pos} {wi:TI} {te:TE}
end
end
end L2
namespace L2
open PySem PySem.Spec PyProof.Rows
section
variable {X:Cx} {pins:List (Addr×Obj)} {σ:St} {H:Hp} {s:Shared}
end
section
variable {X:Cx}
end
end L2
namespace L2
open PySem PySem.Spec PyProof.Rows
noncomputable abbrev D:=PyData
noncomputable abbrev DS:=List (Option D)
noncomputable def cstTab:List (Addr×List V):=[]
theorem Same.tupT {H H':Hp} {a:Addr} {xs:List V} (s:Same H H') (h:TupT H a xs):TupT H' a xs:=by
 rcases h with h | ⟨ob,h⟩
 ·exact .inl (s _ _ h)
 ·exact .inr ⟨ob,s _ _ h⟩
noncomputable def wo (H:Hp) (A:List Addr):Hp:=fun a=>if a∈A then none else H a
section
variable {K:PySem.W.Frag} {H H':Hp} {A A':List Addr} {a l p r:Addr} {o:HO}
theorem zL (h:a∉A):wo H A a=H a:=by unfold wo; rw [if_neg h]
theorem zcI (h:a∈A):wo H A a=none:=by unfold wo; rw [if_pos h]
theorem zbG (h:wo H A a=some o):a∉A /\ H a=some o:=by
 unfold wo at h
 split at h
 ·cases h
 ·exact ⟨by assumption,h⟩
theorem zZ:Same (wo H A) H:=fun _ _ h=>(zbG h).2
theorem zac (s:Same H H'):Same (wo H A) (wo H' A):=fun b u h=>by
 obtain ⟨h1,h2⟩:=zbG h
 rw [zL h1]; exact s b u h2
theorem zcJ (h:∀ a∈A',a∈A):Same (wo H A) (wo H A'):=fun b u q=>by
 obtain ⟨h1,h2⟩:=zbG q
 rw [zL fun z=>h1 (h b z)]; exact h2
theorem zj2:wo H []=H:=by funext a; exact zL (by simp)
theorem zjQ (h:p∉A):wo (upd H p o) A=upd (wo H A) p o:=by
 funext a
 by_cases e:a=p
 ·subst e; rw [zL h,zG,zG]
 ·rw [zn e]
  by_cases z:a∈A
  ·rw [zcI z,zcI z]
  ·rw [zL z,zL z,zn e]
theorem ziq (h:l∈A):wo (upd H l o) A=wo H A:=by
 funext a
 by_cases z:a∈A
 ·rw [zcI z,zcI z]
 ·rw [zL z,zL z,zn]
  intro e; subst e; exact z h
theorem zeX (h:H r=none):wo (upd H r o) (r :: A)=wo H A:=by
 funext a
 by_cases e:a=r
 ·subst e
  rw [zcI (by simp)]
  by_cases z:a∈A
  ·rw [zcI z]
  ·rw [zL z,h]
 ·by_cases z:a∈A
  ·rw [zcI (by simp [z]),zcI z]
  ·rw [zL (by simp [e,z]),zL z,zn e]
theorem zg4 (s:Same H H') (h:H r=none):Same (wo H A) (wo H' (r :: A)):=fun b u q=>by
 obtain ⟨h1,h2⟩:=zbG q
 rw [zL (by simp only [List.mem_cons,not_or]; exact ⟨zv h2 h,h1⟩)]
 exact s b u h2
noncomputable def OwnO:HO->Prop
 | .lst _=>True
 | .dT _=>True
 | _=>False
noncomputable def Ls (A:List Addr) (H:Hp):Prop:=(∀ a∈A,∃ o,H a=some o /\ OwnO o) /\ ∀ p xs,(p,xs)∈cstTab->TupT H p xs
theorem Ls.same (h:Ls A H) (s:Same H H'):Ls A H':=⟨fun a ha=>let ⟨o,e,q⟩:=h.1 a ha; ⟨o,s _ _ e,q⟩,fun p xs m=>s.tupT (h.2 p xs m)⟩
theorem TupT.apart {xs:List V} (t:TupT H p xs) (e:H l=some o) (w:OwnO o):p≠l:=fun z=>by
 subst z
 rcases t with t | ⟨ob,t⟩ <;> rw [e] at t <;> cases t <;> exact w
theorem TupT.wo {xs:List V} (t:TupT H p xs) (n:p∉A):TupT (L2.wo H A) p xs:=by
 rcases t with t | ⟨ob,t⟩
 ·exact .inl (by rw [zL n]; exact t)
 ·exact .inr ⟨ob,by rw [zL n]; exact t⟩
theorem Ls.free (h:Ls A H) (n:H p=none):p∉A:=fun z=>by
 obtain ⟨ys,e,_⟩:=h.1 p z
 rw [n] at e; cases e
end
noncomputable def NoCtx (h:Heap) (e:Addr):Prop:=∃ o fs,h.get? e=some o /\ o.data=.fields fs /\ fs[2]?=some Value.none
noncomputable def ExO (a C:Addr):HO:=.ext fun h=>(∃ o,h.get? a=some o /\ o.cls=.ref C) /\ NoCtx h a
noncomputable def keyD:Key->D:=Sum.elim .int .str
mutual
inductive HD (K:PySem.W.Frag) (H:Hp):V->D->Prop
 | non:HD K H .non .none
 | bl (b:Bool):HD K H (.bl b) (.bool b)
 | int (i:Int):HD K H (.int i) (.int i)
 | str (x:Str):HD K H (.str x) (.str x)
 | lst {a:Addr} {xs:List V} {ds:List D}:LsD K H a xs->HDs K H xs ds->HD K H (.ref a) (.list ds)
 | tup {a:Addr} {xs:List V} {ds:List D}:TupT H a xs->HDs K H xs ds->HD K H (.ref a) (.tuple ds)
 | dct {a:Addr} {kvs:List (List Key×V)} {kds:List (D×D)}:H a=some (.dT kvs)->kds.map (·.1)=kvs.map (fun p=>PyData.tuple (p.1.map keyD))->HDs K H (kvs.map (·.2)) (kds.map (·.2))->HD K H (.ref a) (.dict kds)
 | exc {a C:Addr} {c:Str}:PySem.W.nsIn K mainGlobals c=some (some (.ref C))->H a=some (ExO a C)->HD K H (.ref a) (.dict [(.list [],.tuple [.int (a:Nat),.str c])])
inductive HDs (K:PySem.W.Frag) (H:Hp):List V->List D->Prop
 | nil:HDs K H [] []
 | cons {x:V} {xs:List V} {d:D} {ds:List D}:HD K H x d->HDs K H xs ds->HDs K H (x :: xs) (d :: ds)
end
theorem Same.rd {H H':Hp} {a:Addr} {u:HO} (s:Same H H') (h:Rd H a u):Rd H' a u:=by
 rcases h with h | ⟨o,h⟩
 ·exact .inl (s _ _ h)
 ·exact .inr ⟨o,s _ _ h⟩
theorem LsD.of {K:PySem.W.Frag} {H:Hp} {a:Addr} {xs:List V} (h:H a=some (.lst xs)):LsD K H a xs:=.inl (.inl h)
theorem LsD.sq {K:PySem.W.Frag} {H:Hp} {a:Addr} {xs:List V} (h:LsD K H a xs):SqL K H a xs:=by
 rcases h with h | ⟨its,n,h1,h2,h3⟩
 ·exact .inl h
 ·exact .inr ⟨_,its.toArray,n,h1,rfl,rfl,rfl,by rw [List.size_toArray]; exact h2,by simpa using h3⟩
theorem LsD.same {K:PySem.W.Frag} {H H':Hp} {a:Addr} {xs:List V} (s:Same H H') (h:LsD K H a xs):LsD K H' a xs:=by
 rcases h with h | h
 ·exact .inl (s.rd h)
 ·exact .inr h
theorem Inv.lsd {X:Cx} {pins:List (Addr×Obj)} {σ:St} {H:Hp} {s:Shared} {a:Addr} {xs:List V} (I:Inv X pins σ H s) (h:LsD X.K H a xs):xs.length<=sizeLine /\ ∃ (its:List Value) (n:Nat),Vals xs its /\ s.heap.get? a=some { cls:=.type "list",data:=.seq its.toArray n }:=by
 rcases h with h | ⟨its,n,h1,h2,h3⟩
 ·exact h.ok I.hok
 ·exact ⟨by rw [h3.length]; exact h2,its,n,h3,I.kIn a _ h1⟩
theorem HD.same {K:PySem.W.Frag} {H H':Hp} (e:Same H H') {x:V} {d:D} (h:HD K H x d):HD K H' x d:=
 HD.rec (motive_1:=fun x d _=>HD K H' x d) (motive_2:=fun x d _=>HDs K H' x d) .non .bl .int .str (fun hq _ i=>.lst (hq.same e) i) (fun hq _ i=>.tup (e.tupT hq) i) (fun hq k _ i=>.dct (e _ _ hq) k i) (fun k h=>.exc k (e _ _ h)) .nil (fun _ _ i j=>.cons i j) h
theorem HDs.same {K:PySem.W.Frag} {H H':Hp} (e:Same H H') {x:List V} {d:List D} (h:HDs K H x d):HDs K H' x d:=
 HDs.rec (motive_1:=fun x d _=>HD K H' x d) (motive_2:=fun x d _=>HDs K H' x d) .non .bl .int .str (fun hq _ i=>.lst (hq.same e) i) (fun hq _ i=>.tup (e.tupT hq) i) (fun hq k _ i=>.dct (e _ _ hq) k i) (fun k h=>.exc k (e _ _ h)) .nil (fun _ _ i j=>.cons i j) h
section
variable {X:Cx} {pins:List (Addr×Obj)} {σ:St} {H:Hp} {s:Shared}
theorem zaP {d:D} (h:SeqAt.shaped d=true):d.canLay0=true:=by
 unfold SeqAt.shaped at h
 rw [Bool.and_eq_true] at h
 exact h.1
theorem zl6 (I:Inv X pins σ H s) {a:Addr} {xs:List V} {ds:List D} {u:Value} (hq:LsD X.K H a xs) (r:RelV (.ref a) u) (h:∀ {us},Vals xs us->∃ as,ReadsAll s.heap us ds as):∃ as,Reads s.heap u (.list ds) as:=by
 cases (show u=Value.ref a from r)
 obtain ⟨its,rv,⟨o,n,h1,h2,_,h3⟩,_⟩:=I.list hq.sq
 obtain ⟨as,q⟩:=h rv
 exact ⟨_,.list h1 h2 h3 (by simpa using q)⟩
theorem zlI (I:Inv X pins σ H s) {a:Addr} {xs:List V} {ds:List D} {u:Value} (hq:TupT H a xs) (r:RelV (.ref a) u) (h:∀ {us},Vals xs us->∃ as,ReadsAll s.heap us ds as):∃ as,Reads s.heap u (.tuple ds) as:=by
 cases (show u=Value.ref a from r)
 obtain ⟨its,rv,⟨o,h1,h2,n,h3⟩,_⟩:=I.tuple (.inl hq)
 obtain ⟨as,q⟩:=h rv
 exact ⟨_,.tuple h1 h2 h3 (by simpa using q)⟩
theorem HD.reads (I:Inv X pins σ H s) {x:V} {d:D} (h:HD X.K H x d):∀ {u:Value},RelV x u->PyData.canLay0 d=true->∃ as,Reads s.heap u d as:=
 HD.rec (motive_1:=fun x d _=>∀ {u},RelV x u->d.canLay0=true->∃ as,Reads s.heap u d as) (motive_2:=fun x d _=>∀ {u},Vals x u->PyData.canLayAll0 d=true->∃ as,ReadsAll s.heap u d as)
  (fun {u} r _=>by cases (show u=Value.none from r); exact ⟨_,.none⟩) (fun b {u} r _=>by cases (show u=Value.bool b from r); exact ⟨_,.bool b⟩) (fun i {u} r _=>by obtain ⟨t,rfl⟩:=r; exact ⟨_,.int i t⟩) (fun i {u} r _=>by obtain ⟨t,rfl⟩:=r; exact ⟨_,.str i t⟩)
  (fun {_ _ _} hq _ i {_} r c=>zl6 I hq r fun rv=>i rv (by rw [PyData.canLay0] at c; exact c)) (fun {_ _ _} hq _ i {_} r c=>zlI I hq r fun rv=>i rv (by rw [PyData.canLay0] at c; exact c)) (fun {_ _ _} _ _ _ _ {_} _ c=>by rw [PyData.canLay0] at c; cases c) (fun {_ _ _} _ _ {_} _ c=>by rw [PyData.canLay0] at c; cases c)
  (fun {_} r _=>by cases r; exact ⟨_,.nil⟩) (fun {_ _ _ _} _ _ i j {_} r c=>by
   rw [PyData.canLayAll0,Bool.and_eq_true] at c
   cases r with
   | cons r rs=>
     obtain ⟨as,q⟩:=i r c.1
     obtain ⟨bs,qs⟩:=j rs c.2
     exact ⟨_,.cons q qs⟩) h
end
theorem HDs.len {K:PySem.W.Frag} {H:Hp}:∀ {xs:List V} {ds:List D},HDs K H xs ds->xs.length=ds.length
 | _,_,.nil=>rfl
 | _,_,.cons _ t=>by rw [List.length_cons,List.length_cons,HDs.len t]
theorem HDs.get {K:PySem.W.Frag} {H:Hp}:∀ {xs:List V} {ds:List D} {i:Nat} {d:D},HDs K H xs ds->ds[i]?=some d->∃ x,xs[i]?=some x /\ HD K H x d
 | _,_,_,_,.nil,e=>by simp at e
 | _,_,0,_,.cons r _,e=>by simp at e; subst e; exact ⟨_,rfl,r⟩
 | _,_,i + 1,y,.cons _ t,e=>by
   obtain ⟨u,h1,h2⟩:=HDs.get (i:=i) (d:=y) t (by simpa using e)
   exact ⟨u,by simpa using h1,h2⟩
theorem HDs.app {K:PySem.W.Frag} {H:Hp}:∀ {xs xs':List V} {ds ds':List D},HDs K H xs ds->HDs K H xs' ds'->HDs K H (xs ++ xs') (ds ++ ds')
 | _,_,_,_,.nil,s=>s
 | _,_,_,_,.cons r t,s=>.cons r (HDs.app t s)
theorem HDs.takeD {K:PySem.W.Frag} {H:Hp}:∀ {xs:List V} {ds:List D} (n:Nat),HDs K H xs ds->HDs K H (xs.take n) (ds.take n)
 | _,_,0,_=>.nil
 | _,_,_ + 1,.nil=>.nil
 | _,_,n + 1,.cons r t=>.cons r (HDs.takeD n t)
theorem HDs.dropD {K:PySem.W.Frag} {H:Hp}:∀ {xs:List V} {ds:List D} (n:Nat),HDs K H xs ds->HDs K H (xs.drop n) (ds.drop n)
 | _,_,0,r=>r
 | _,_,_ + 1,.nil=>.nil
 | _,_,n + 1,.cons _ t=>HDs.dropD n t
theorem HDs.dropLastD {K:PySem.W.Frag} {H:Hp} {xs:List V} {ds:List D} (h:HDs K H xs ds):HDs K H xs.dropLast ds.dropLast:=by
 rw [List.dropLast_eq_take,List.dropLast_eq_take,h.len]; exact h.takeD _
theorem HDs.ints {K:PySem.W.Frag} {H:Hp}:∀ ns:List Int,HDs K H (ns.map V.int) (ns.map PyData.int)
 | []=>.nil
 | n :: ns=>.cons (.int n) (HDs.ints ns)
inductive OwO (K:PySem.W.Frag) (H:Hp):HO->D->Prop
 | lst {ys:List V} {ds:List D}:HDs K H ys ds->OwO K H (.lst ys) (.list ds)
 | dct {kvs:List (List Key×V)} {kds:List (D×D)}:kds.map (·.1)=kvs.map (fun p=>PyData.tuple (p.1.map keyD))->HDs K H (kvs.map (·.2)) (kds.map (·.2))->OwO K H (.dT kvs) (.dict kds)
theorem OwO.same {K:PySem.W.Frag} {H H':Hp} {o:HO} {d:D} (s:Same H H') (h:OwO K H o d):OwO K H' o d:=by
 cases h with
 | lst q=>exact .lst (q.same s)
 | dct k q=>exact .dct k (q.same s)
theorem OwO.own {K:PySem.W.Frag} {H:Hp} {o:HO} {d:D} (h:OwO K H o d):OwnO o:=by cases h <;> trivial
theorem OwO.hd {K:PySem.W.Frag} {H:Hp} {o:HO} {d:D} {l:Addr} (h:OwO K H o d) (e:H l=some o):HD K H (.ref l) d:=by
 cases h with
 | lst q=>exact .lst (.of e) q
 | dct k q=>exact .dct e k q
noncomputable def fnD:List (D×D)->Bool
 | (.list [],_) :: _=>true
 | _=>false
noncomputable def ShD (K:PySem.W.Frag) (A:List Addr) (H:Hp) (v:V) (d:D):Prop:=HD K (wo H A) v d \/ ∃ l o,v=.ref l /\ H l=some o /\ OwO K (wo H A) o d
section
variable {K:PySem.W.Frag} {H H':Hp} {A A':List Addr} {v:V} {d:D}
theorem ShD.of (h:HD K (wo H A) v d):ShD K A H v d:=.inl h
theorem ShD.same (s:Same H H') (h:ShD K A H v d):ShD K A H' v d:=by
 rcases h with h | ⟨l,o,rfl,e,q⟩
 ·exact .inl (h.same (zac s))
 ·exact .inr ⟨l,o,rfl,s _ _ e,q.same (zac s)⟩
theorem ShD.isD (h:ShD K A H v d):HD K H v d:=by
 rcases h with h | ⟨l,o,rfl,e,q⟩
 ·exact h.same zZ
 ·exact (q.same zZ).hd e
theorem ShD.list {ds:List D} (h:ShD K A H v (.list ds)):∃ l ys,v=.ref l /\ LsD K H l ys /\ HDs K (wo H A) ys ds:=by
 rcases h with h | ⟨l,o,rfl,e,q⟩
 ·cases h with
  | lst hq h=>exact ⟨_,_,rfl,hq.same zZ,h⟩
 ·cases q with
  | lst q=>exact ⟨l,_,rfl,.of e,q⟩
theorem ShD.tupH {ds:List D} (h:ShD K A H v (.tuple ds)):∃ l ys,v=.ref l /\ TupT H l ys /\ HDs K (wo H A) ys ds:=by
 rcases h with h | ⟨l,o,rfl,e,q⟩
 ·cases h with
  | tup hq h=>exact ⟨_,_,rfl,zZ.tupT hq,h⟩
 ·cases q
theorem ShD.tuple {ds:List D} (h:ShD K A H v (.tuple ds)):∃ l ys,v=.ref l /\ SqT K H l ys /\ HDs K (wo H A) ys ds:=
 let ⟨l,ys,a,b,c⟩:=h.tupH; ⟨l,ys,a,.inl b,c⟩
theorem ShD.dict {kds:List (D×D)} (h:ShD K A H v (.dict kds)) (hf:fnD kds=false):∃ l kvs,v=.ref l /\ H l=some (.dT kvs) /\ kds.map (·.1)=kvs.map (fun p=>PyData.tuple (p.1.map keyD)) /\ HDs K (wo H A) (kvs.map (·.2)) (kds.map (·.2)):=by
 rcases h with h | ⟨l,o,rfl,e,q⟩
 ·cases h with
  | dct hq k h=>exact ⟨_,_,rfl,zZ _ _ hq,k,h⟩
  | exc _ _=>cases hf
 ·cases q with
  | dct k q=>exact ⟨l,_,rfl,e,k,q⟩
theorem ShD.fz {ds:List D} (h:ShD K A H v (.tuple ds)):HD K (wo H A) v (.tuple ds):=by
 rcases h with h | ⟨l,o,rfl,e,q⟩
 ·exact h
 ·cases q
theorem ShD.int {i:Int} (h:ShD K A H v (.int i)):v=.int i:=by
 rcases h with h | ⟨l,o,rfl,e,q⟩
 ·cases h; rfl
 ·cases q
theorem ShD.bool {b:Bool} (h:ShD K A H v (.bool b)):v=.bl b:=by
 rcases h with h | ⟨l,o,rfl,e,q⟩
 ·cases h; rfl
 ·cases q
theorem ShD.str {b:Str} (h:ShD K A H v (.str b)):v=.str b:=by
 rcases h with h | ⟨l,o,rfl,e,q⟩
 ·cases h; rfl
 ·cases q
theorem ShD.non (h:ShD K A H v .none):v=.non:=by
 rcases h with h | ⟨l,o,rfl,e,q⟩
 ·cases h; rfl
 ·cases q
end
structure Rel (K:PySem.W.Frag) (O:List Nat) (U A0:List Addr) (σ:St) (δ:DS) (H:Hp):Prop where
 len:σ.length=δ.length
 fz:∀ (i:Nat) d,i∉O->δ[i]?=some (some d)->∃ v,σ[i]?=some (some v) /\ HD K (wo H (U ++ A0)) v d
 ow:∀ (i:Nat) d,i∈O->δ[i]?=some (some d)->∃ l o,σ[i]?=some (some (.ref l)) /\ l∈U /\ H l=some o /\ OwO K (wo H (U ++ A0)) o d
 inj:∀ (i j:Nat) d e l,i∈O->j∈O->i≠j->δ[i]?=some (some d)->δ[j]?=some (some e)->σ[i]?=some (some (.ref l))->σ[j]?=some (some (.ref l))->False
 al:Ls (U ++ A0) H
section
variable {K:PySem.W.Frag} {O:List Nat} {U A0:List Addr} {σ:St} {δ:DS} {H H':Hp}
theorem Rel.same (R:Rel K O U A0 σ δ H) (s:Same H H'):Rel K O U A0 σ δ H' where
 len:=R.len
 fz:=fun i d hi e=>let ⟨v,a,b⟩:=R.fz i d hi e; ⟨v,a,b.same (zac s)⟩
 ow:=fun i d hi e=>let ⟨l,o,a,c,f,g⟩:=R.ow i d hi e; ⟨l,o,a,c,s _ _ f,g.same (zac s)⟩
 inj:=R.inj
 al:=R.al.same s
theorem Rel.owL (R:Rel K O U A0 σ δ H) (i:Nat) (d:D) (hi:i∈O) (e:δ[i]?=some (some d)):(∃ l ys ds,σ[i]?=some (some (.ref l)) /\ d=.list ds /\ l∈U /\ H l=some (.lst ys) /\ HDs K (wo H (U ++ A0)) ys ds) \/ ∃ kds,d=.dict kds:=by
 obtain ⟨l,o,a,c,f,g⟩:=R.ow i d hi e
 cases g with
 | lst q=>exact .inl ⟨l,_,_,a,rfl,c,f,q⟩
 | dct k q=>exact .inr ⟨_,rfl⟩
theorem Rel.at (R:Rel K O U A0 σ δ H) {i:Nat} {d:D} (e:δ[i]?=some (some d)):∃ v,σ[i]?=some (some v) /\ ShD K (U ++ A0) H v d:=by
 by_cases hi:i∈O
 ·obtain ⟨l,o,a,c,f,g⟩:=R.ow i d hi e
  exact ⟨_,a,.inr ⟨l,o,rfl,f,g⟩⟩
 ·obtain ⟨v,a,b⟩:=R.fz i d hi e
  exact ⟨v,a,.inl b⟩
theorem Rel.set (R:Rel K O U A0 σ δ H) {i:Nat} {v:V} {d:D} (hi:i∉O) (h:HD K (wo H (U ++ A0)) v d):Rel K O U A0 (σ.set i (some v)) (δ.set i (some d)) H where
 len:=by rw [List.length_set,List.length_set]; exact R.len
 fz:=fun j e hj q=>by
  by_cases hij:i=j
  ·subst hij
   have hl:i < δ.length:=by have:=(List.getElem?_eq_some_iff.mp q).1; rwa [List.length_set] at this
   rw [List.getElem?_set_self hl] at q
   cases q
   exact ⟨v,List.getElem?_set_self (by rw [R.len]; exact hl),h⟩
  ·rw [List.getElem?_set_ne hij] at q ⊢
   exact R.fz j e hj q
 ow:=fun j e hj q=>by
  have hij:i≠j:=fun z=>hi (z ▸ hj)
  rw [List.getElem?_set_ne hij] at q ⊢
  exact R.ow j e hj q
 inj:=fun j k d e l hj hk hjk q1 q2 e1 e2=>by
  have hij:i≠j:=fun z=>hi (z ▸ hj)
  have hik:i≠k:=fun z=>hi (z ▸ hk)
  rw [List.getElem?_set_ne hij] at q1 e1
  rw [List.getElem?_set_ne hik] at q2 e2
  exact R.inj j k d e l hj hk hjk q1 q2 e1 e2
 al:=R.al
theorem Rel.setO (R:Rel K O U A0 σ δ H) (s:Same H H') {i:Nat} {r:Addr} {ob:HO} {db:D} (hr:H r=none) (h:H' r=some ob) (q:OwO K (wo H' (r :: (U ++ A0))) ob db) (hi:i∈O):
  Rel K O (r :: U) A0 (σ.set i (some (.ref r))) (δ.set i (some db)) H' where
 len:=by rw [List.length_set,List.length_set]; exact R.len
 fz:=fun j e hj q=>by
  have hij:i≠j:=fun z=>hj (z ▸ hi)
  rw [List.getElem?_set_ne hij] at q ⊢
  obtain ⟨v,a,b⟩:=R.fz j e hj q
  exact ⟨v,a,b.same (zg4 s hr)⟩
 ow:=fun j e hj w=>by
  by_cases hij:i=j
  ·subst hij
   have hl:i < δ.length:=by have:=(List.getElem?_eq_some_iff.mp w).1; rwa [List.length_set] at this
   rw [List.getElem?_set_self hl] at w
   cases w
   exact ⟨r,ob,List.getElem?_set_self (by rw [R.len]; exact hl),by simp,h,q⟩
  ·rw [List.getElem?_set_ne hij] at w ⊢
   obtain ⟨l,o,a,c,f,g⟩:=R.ow j e hj w
   exact ⟨l,o,a,by simp [c],s _ _ f,g.same (zg4 s hr)⟩
 inj:=fun j k d e l hj hk hjk q1 q2 e1 e2=>by
  have len1:∀ {x:D},(δ.set i (some db))[i]?=some (some x)->i < δ.length:=fun w=>by have:=(List.getElem?_eq_some_iff.mp w).1; rwa [List.length_set] at this
  by_cases hij:i=j
  ·subst hij
   have hik:i≠k:=hjk
   rw [List.getElem?_set_self (by rw [R.len]; exact len1 q1)] at e1
   rw [List.getElem?_set_ne hik] at q2 e2
   cases e1
   obtain ⟨l,o,a,c,f,g⟩:=R.ow k e hk q2
   rw [a] at e2; cases e2
   rw [hr] at f; cases f
  ·by_cases hik:i=k
   ·subst hik
    rw [List.getElem?_set_self (by rw [R.len]; exact len1 q2)] at e2
    rw [List.getElem?_set_ne hij] at q1 e1
    cases e2
    obtain ⟨l,o,a,c,f,g⟩:=R.ow j d hj q1
    rw [a] at e1; cases e1
    rw [hr] at f; cases f
   ·rw [List.getElem?_set_ne hij] at q1 e1
    rw [List.getElem?_set_ne hik] at q2 e2
    exact R.inj j k d e l hj hk hjk q1 q2 e1 e2
 al:=⟨fun a ha=>by
  rcases List.mem_append.mp ha with z | z
  ·rcases List.mem_cons.mp z with z | z
   ·subst z; exact ⟨ob,h,q.own⟩
   ·exact (R.al.same s).1 a (List.mem_append_left _ z)
  ·exact (R.al.same s).1 a (List.mem_append_right _ z),(R.al.same s).2⟩
theorem Rel.setN (R:Rel K O U A0 σ δ H) (s:Same H H') {i:Nat} {r:Addr} {ys:List V} {ds:List D} (hr:H r=none) (h:H' r=some (.lst ys)) (q:HDs K (wo H' (r :: (U ++ A0))) ys ds) (hi:i∈O):
  Rel K O (r :: U) A0 (σ.set i (some (.ref r))) (δ.set i (some (.list ds))) H':=R.setO s hr h (.lst q) hi
theorem Rel.putO (R:Rel K O U A0 σ δ H) {i:Nat} {l:Addr} {ob:HO} {db:D} (hi:i∈O) (hl:σ[i]?=some (some (.ref l))) (hU:l∈U) (q:OwO K (wo H (U ++ A0)) ob db) (hd:∃ d,δ[i]?=some (some d)):
  Rel K O U A0 σ (δ.set i (some db)) (upd H l ob):=by
 have hw:wo (upd H l ob) (U ++ A0)=wo H (U ++ A0):=ziq (List.mem_append_left _ hU)
 obtain ⟨d0,hd⟩:=hd
 have hlen:i < δ.length:=(List.getElem?_eq_some_iff.mp hd).1
 exact {
  len:=by rw [List.length_set]; exact R.len
  fz:=fun j e hj w=>by
   have hij:i≠j:=fun z=>hj (z ▸ hi)
   rw [List.getElem?_set_ne hij] at w
   rw [hw]
   exact R.fz j e hj w
  ow:=fun j e hj w=>by
   rw [hw]
   by_cases hij:i=j
   ·subst hij
    rw [List.getElem?_set_self hlen] at w
    cases w
    exact ⟨l,ob,hl,hU,zG,q⟩
   ·rw [List.getElem?_set_ne hij] at w
    obtain ⟨l',o',a,c,f,g⟩:=R.ow j e hj w
    have hne:l'≠l:=by
     intro z; subst z
     exact R.inj i j d0 e _ hi hj hij hd w hl a
    exact ⟨l',o',a,c,by rw [zn hne]; exact f,g⟩
  inj:=fun j k d e l hj hk hjk q1 q2 e1 e2=>by
   have f:∀ {m:Nat} {x:D},(δ.set i (some db))[m]?=some (some x)->∃ y,δ[m]?=some (some y):=by
    intro m x w
    by_cases him:i=m
    ·subst him; exact ⟨d0,hd⟩
    ·rw [List.getElem?_set_ne him] at w; exact ⟨x,w⟩
   obtain ⟨y1,w1⟩:=f q1
   obtain ⟨y2,w2⟩:=f q2
   exact R.inj j k y1 y2 l hj hk hjk w1 w2 e1 e2
  al:=⟨fun a ha=>by
   by_cases e:a=l
   ·subst e; exact ⟨ob,zG,q.own⟩
   ·rw [zn e]; exact R.al.1 a ha,fun p xs m=>
    let ⟨_,e,w⟩:=R.al.1 l (List.mem_append_left _ hU)
    (R.al.2 p xs m).ne ((R.al.2 p xs m).apart e w)⟩ }
theorem Rel.put (R:Rel K O U A0 σ δ H) {i:Nat} {l:Addr} {ys:List V} {ds:List D} (hi:i∈O) (hl:σ[i]?=some (some (.ref l))) (hU:l∈U) (q:HDs K (wo H (U ++ A0)) ys ds) (hd:∃ d,δ[i]?=some (some d)):
  Rel K O U A0 σ (δ.set i (some (.list ds))) (upd H l (.lst ys)):=R.putO hi hl hU (.lst q) hd
end
structure Fx (H0:Hp) (A0 U:List Addr) (H:Hp):Prop where
 same:Same H0 H
 new:∀ a∈U,H0 a=none
 old:Ls A0 H0
section
variable {K:PySem.W.Frag} {O:List Nat} {U U' A0:List Addr} {σ:St} {δ:DS} {H0 H H':Hp}
theorem Fx.grow (F:Fx H0 A0 U H) (s:Same H H'):Fx H0 A0 U H':=⟨F.same.trans s,F.new,F.old⟩
theorem Fx.more (F:Fx H0 A0 U H) (s:Same H H') {r:Addr} (hr:H r=none):Fx H0 A0 (r :: U) H':=⟨F.same.trans s,fun a ha=>by
 rcases List.mem_cons.mp ha with z | z
 ·subst z; exact F.same.free hr
 ·exact F.new a z,F.old⟩
theorem Fx.put (F:Fx H0 A0 U H) {l:Addr} (hl:l∈U) (o:HO):Fx H0 A0 U (upd H l o):=⟨F.same.upd (F.new l hl) o,F.new,F.old⟩
theorem Fx.out (F:Fx H0 A0 U H) {l:Addr} (hl:l∈U):l∉A0:=fun z=>by
 obtain ⟨ys,e,_⟩:=F.old.1 l z
 rw [F.new l hl] at e; cases e
theorem Fx.here (F:Fx H0 A0 U H):Fx (wo H U) A0 U H:=⟨zZ,fun _ h=>zcI h,fun a ha=>by
 obtain ⟨ys,e,q⟩:=F.old.1 a ha
 refine ⟨ys,?_,q⟩
 rw [zL fun z=>?_]
 ·exact F.same _ _ e
 ·exact F.out z ha,fun p xs m=>(F.same.tupT (F.old.2 p xs m)).wo fun z=>by
 rcases F.old.2 p xs m with t | ⟨ob,t⟩ <;> rw [F.new p z] at t <;> cases t⟩
theorem Fx.trans (F:Fx H0 A0 U H) (G:Fx (wo H U) A0 U' H'):Fx H0 A0 U' H':=by
 have k:∀ a o,H0 a=some o->wo H U a=some o:=fun a o e=>by
  rw [zL fun z=>?_]
  ·exact F.same _ _ e
  ·rw [F.new a z] at e; cases e
 refine ⟨fun a o e=>G.same _ _ (k a o e),fun a ha=>?_,F.old⟩
 cases e:H0 a with
 | none=>rfl
 | some o=>
   have:=G.new a ha
   rw [k a o e] at this; cases this
theorem Fx.keeps (G:Fx (wo H U) A0 U' H'):Same (wo H (U ++ A0)) (wo H' (U' ++ A0)):=fun b o e=>by
 obtain ⟨h1,h2⟩:=zbG e
 simp only [List.mem_append,not_or] at h1
 have h3:wo H U b=some o:=by rw [zL h1.1]; exact h2
 rw [zL]
 ·exact G.same _ _ h3
 ·simp only [List.mem_append,not_or]
  refine ⟨fun z=>?_,h1.2⟩
  rw [G.new b z] at h3; cases h3
end
noncomputable def tE (K:PySem.W.Frag) (O:List Nat) (g:DS->Option D):TE:=fun σ H Q=>∃ U A0 δ d,Rel K O U A0 σ δ H /\ g δ=some d /\ ∀ v H',Same H H'->HD K (wo H' (U ++ A0)) v d->Q v H'
theorem tE.e {K:PySem.W.Frag} {O:List Nat} {g:DS->Option D}  {σ:_} {H:_} {Q:_} {GG:Prop} (hh:tE K O g σ H Q) (kk:∀ U A0 δ d,(Rel K O U A0 σ δ H)->(g δ=some d)->(∀ v H',Same H H'->HD K (wo H' (U ++ A0)) v d->Q v H')->GG):GG:=by obtain ⟨U,A0,δ,d,x0,x1,x2⟩:=hh; exact kk U A0 δ d x0 x1 x2
noncomputable def tSh (K:PySem.W.Frag) (O:List Nat) (g:DS->Option D):TE:=fun σ H Q=>∃ U A0 δ d,Rel K O U A0 σ δ H /\ g δ=some d /\ ∀ v H',Same H H'->ShD K (U ++ A0) H' v d->Q v H'
theorem tSh.e {K:PySem.W.Frag} {O:List Nat} {g:DS->Option D}  {σ:_} {H:_} {Q:_} {GG:Prop} (hh:tSh K O g σ H Q) (kk:∀ U A0 δ d,(Rel K O U A0 σ δ H)->(g δ=some d)->(∀ v H',Same H H'->ShD K (U ++ A0) H' v d->Q v H')->GG):GG:=by obtain ⟨U,A0,δ,d,x0,x1,x2⟩:=hh; exact kk U A0 δ d x0 x1 x2
noncomputable def tN (K:PySem.W.Frag) (O:List Nat) (g:DS->Option (List D)):TE:=fun σ H Q=>∃ U A0 δ ds,Rel K O U A0 σ δ H /\ g δ=some ds /\
 ∀ r ys H',Same H H'->H r=none->H' r=some (.lst ys)->HDs K (wo H' (r :: (U ++ A0))) ys ds->Q (.ref r) H'
theorem tN.e {K:PySem.W.Frag} {O:List Nat} {g:DS->Option (List D)}  {σ:_} {H:_} {Q:_} {GG:Prop} (hh:tN K O g σ H Q) (kk:∀ U A0 δ ds,(Rel K O U A0 σ δ H)->(g δ=some ds)->(∀ r ys H',Same H H'->H r=none->H' r=some (.lst ys)->HDs K (wo H' (r :: (U ++ A0))) ys ds->Q (.ref r) H')->GG):GG:=by obtain ⟨U,A0,δ,ds,x0,x1,x2⟩:=hh; exact kk U A0 δ ds x0 x1 x2
noncomputable def tT (K:PySem.W.Frag) (O:List Nat) (g:DS->Option Bool):TT:=fun σ H Q=>∃ U A0 δ b,Rel K O U A0 σ δ H /\ g δ=some b /\ ∀ H',Same H H'->Q b H'
theorem tT.e {K:PySem.W.Frag} {O:List Nat} {g:DS->Option Bool}  {σ:_} {H:_} {Q:_} {GG:Prop} (hh:tT K O g σ H Q) (kk:∀ U A0 δ b,(Rel K O U A0 σ δ H)->(g δ=some b)->(∀ H',Same H H'->Q b H')->GG):GG:=by obtain ⟨U,A0,δ,b,x0,x1,x2⟩:=hh; exact kk U A0 δ b x0 x1 x2
noncomputable def tAs (K:PySem.W.Frag) (O:List Nat) (g:DS->Option (List D)):TA:=fun σ H Q=>∃ U A0 δ ds,Rel K O U A0 σ δ H /\ g δ=some ds /\ ∀ vs H',Same H H'->HDs K (wo H' (U ++ A0)) vs ds->Q vs H'
theorem tAs.e {K:PySem.W.Frag} {O:List Nat} {g:DS->Option (List D)}  {σ:_} {H:_} {Q:_} {GG:Prop} (hh:tAs K O g σ H Q) (kk:∀ U A0 δ ds,(Rel K O U A0 σ δ H)->(g δ=some ds)->(∀ vs H',Same H H'->HDs K (wo H' (U ++ A0)) vs ds->Q vs H')->GG):GG:=by obtain ⟨U,A0,δ,ds,x0,x1,x2⟩:=hh; exact kk U A0 δ ds x0 x1 x2
noncomputable def ShDs (K:PySem.W.Frag) (A:List Addr) (H:Hp):List V->List D->Prop:=Paired (ShD K A H)
noncomputable def tAsh (K:PySem.W.Frag) (O:List Nat) (g:DS->Option (List D)):TA:=fun σ H Q=>∃ U A0 δ ds,Rel K O U A0 σ δ H /\ g δ=some ds /\ ∀ vs H',Same H H'->ShDs K (U ++ A0) H' vs ds->Q vs H'
theorem tAsh.e {K:PySem.W.Frag} {O:List Nat} {g:DS->Option (List D)}  {σ:_} {H:_} {Q:_} {GG:Prop} (hh:tAsh K O g σ H Q) (kk:∀ U A0 δ ds,(Rel K O U A0 σ δ H)->(g δ=some ds)->(∀ vs H',Same H H'->ShDs K (U ++ A0) H' vs ds->Q vs H')->GG):GG:=by obtain ⟨U,A0,δ,ds,x0,x1,x2⟩:=hh; exact kk U A0 δ ds x0 x1 x2
inductive Res where
 | nx (δ:DS) | rt (d:D) | bk (δ:DS) | ct (δ:DS)
noncomputable def RetR (K:PySem.W.Frag) (fr:Bool) (H0:Hp) (A0:List Addr) (v:V) (d:D) (H':Hp):Prop:=
 if fr=true then ∃ r o,v=.ref r /\ Same H0 H' /\ H0 r=none /\ H' r=some o /\ OwO K (wo H' (r :: A0)) o d else Same H0 H' /\ HD K (wo H' A0) v d
noncomputable def rxD (c:Str):D:=.dict [(.none,.str c)]
noncomputable abbrev Fr:=Bool×(Str->Hp->Prop)
noncomputable def Post (K:PySem.W.Frag) (O:List Nat) (fr:Fr) (H0:Hp) (A0:List Addr) (E:Ends):Res->Prop
 | .nx δ=>∀ U σ H,Rel K O U A0 σ δ H->Fx H0 A0 U H->E.nx σ H
 | .bk δ=>∀ U σ H,Rel K O U A0 σ δ H->Fx H0 A0 U H->E.bk σ H
 | .ct δ=>∀ U σ H,Rel K O U A0 σ δ H->Fx H0 A0 U H->E.ct σ H
 | .rt d=>(∀ v H,RetR K fr.1 H0 A0 v d H->E.rt v H) /\ ∀ c H,d=rxD c->Same H0 H->fr.2 c H
noncomputable def tS (K:PySem.W.Frag) (O:List Nat) (fr:Fr) (g:DS->Option Res):TS:=fun E σ H=>∃ H0 U A0 δ r,Rel K O U A0 σ δ H /\ Fx H0 A0 U H /\ g δ=some r /\ Post K O fr H0 A0 E r
theorem tS.e {K:PySem.W.Frag} {O:List Nat} {fr:Fr} {g:DS->Option Res}  {E:_} {σ:_} {H:_} {GG:Prop} (hh:tS K O fr g E σ H) (kk:∀ H0 U A0 δ r,(Rel K O U A0 σ δ H)->(Fx H0 A0 U H)->(g δ=some r)->(Post K O fr H0 A0 E r)->GG):GG:=by obtain ⟨H0,U,A0,δ,r,x0,x1,x2,x3⟩:=hh; exact kk H0 U A0 δ r x0 x1 x2 x3
noncomputable def Walks (K:PySem.W.Frag) (A:List Addr) (H1:Hp) (J:It) (ds:List D):Prop:=∀ (A':List Addr) (i:Nat) (H:Hp),Same (wo H1 A) (wo H A')->Ls A' H->
 (∀ d,ds[i]?=some d->J.go i H /\ ∀ x H2,J.yld i H x H2->Same H H2 /\ HD K (wo H2 A') x d) /\ (i=ds.length->J.stop i H)
noncomputable def tI (K:PySem.W.Frag) (O:List Nat) (g:DS->Option (List D)):TI:=fun σ H R=>∃ U A0 δ ds,Rel K O U A0 σ δ H /\ g δ=some ds /\ ∀ J H1,Same H H1->Walks K (U ++ A0) H1 J ds->R J H1
theorem tI.e {K:PySem.W.Frag} {O:List Nat} {g:DS->Option (List D)}  {σ:_} {H:_} {R:_} {GG:Prop} (hh:tI K O g σ H R) (kk:∀ U A0 δ ds,(Rel K O U A0 σ δ H)->(g δ=some ds)->(∀ J H1,Same H H1->Walks K (U ++ A0) H1 J ds->R J H1)->GG):GG:=by obtain ⟨U,A0,δ,ds,x0,x1,x2⟩:=hh; exact kk U A0 δ ds x0 x1 x2
noncomputable def tG (K:PySem.W.Frag) (O:List Nat) (g:D->DS->Option DS):TG:=fun v σ H Q=>∃ U A0 δ d δ',Rel K O U A0 σ δ H /\ HD K (wo H (U ++ A0)) v d /\ g d δ=some δ' /\ ∀ σ',Rel K O U A0 σ' δ' H->Q σ' H
theorem tG.e {K:PySem.W.Frag} {O:List Nat} {g:D->DS->Option DS}  {v:_} {σ:_} {H:_} {Q:_} {GG:Prop} (hh:tG K O g v σ H Q) (kk:∀ U A0 δ d δ',(Rel K O U A0 σ δ H)->(HD K (wo H (U ++ A0)) v d)->(g d δ=some δ')->(∀ σ',Rel K O U A0 σ' δ' H->Q σ' H)->GG):GG:=by obtain ⟨U,A0,δ,d,δ',x0,x1,x2,x3⟩:=hh; exact kk U A0 δ d δ' x0 x1 x2 x3
end L2
namespace L2
open PySem PySem.Spec PyProof.Rows
section
variable {X:Cx}
theorem PE.mono {e:Expr} {t t':TE} (h:PE X e t) (m:∀ σ H Q,t' σ H Q->t σ H Q):PE X e t':=fun pins s σ H Q I q=>h pins s σ H Q I (m σ H Q q)
theorem PT.mono {e:Expr} {t t':TT} (h:PT X e t) (m:∀ σ H Q,t' σ H Q->t σ H Q):PT X e t':=fun pins s σ H Q I q=>h pins s σ H Q I (m σ H Q q)
theorem PW.mono {e:Expr} {t t':TT} (h:PW X e t) (m:∀ σ H Q,t' σ H Q->t σ H Q):PW X e t':=fun w pins s σ H Q I q=>h w pins s σ H Q I (m σ H Q q)
theorem PA.mono {e:List Expr} {t t':TA} (h:PA X e t) (m:∀ σ H Q,t' σ H Q->t σ H Q):PA X e t':=fun pos pins s σ H Q I q=>h pos pins s σ H Q I (m σ H Q q)
theorem PS.mono {e:Stmt} {t t':TS} (h:PS X e t) (m:∀ E σ H,t' E σ H->t E σ H):PS X e t':=fun pins s σ H E I q=>h pins s σ H E I (m E σ H q)
theorem PSs.mono {e:List Stmt} {t t':TS} (h:PSs X e t) (m:∀ E σ H,t' E σ H->t E σ H):PSs X e t':=fun pins s σ H E I q=>h pins s σ H E I (m E σ H q)
theorem PI.mono {tg e:Expr} {t t':TI} (h:PI X tg e t) (m:∀ σ H R,t' σ H R->t σ H R):PI X tg e t':=fun pins s σ H R I q=>h pins s σ H R I (m σ H R q)
theorem PG.mono {e:Expr} {t t':TG} (h:PG X e t) (m:∀ v σ H Q,t' v σ H Q->t v σ H Q):PG X e t':=fun pins s σ H v u Q I r q=>h pins s σ H v u Q I r (m v σ H Q q)
theorem PO.mono {e:Option Expr} {t t':TO} (h:PO X e t) (m:∀ σ H Q,t' σ H Q->t σ H Q):PO X e t':=fun pins s σ H Q I q=>h pins s σ H Q I (m σ H Q q)
end
noncomputable def gVar (i:Nat):DS->Option D:=fun δ=>(δ[i]?).join
noncomputable def gC (d:D):DS->Option D:=fun _=>some d
noncomputable def gLst (g:DS->Option (List D)):DS->Option D:=fun δ=>(g δ).map .list
theorem zB {α:Type} {o:Option (Option α)} {d:α} (h:o.join=some d):o=some (some d):=by
 cases o with
 | none=>cases h
 | some p=>cases p with
   | none=>cases h
   | some q=>cases h; rfl
section
variable {X:Cx} {O:List Nat} {e:Expr} {g:DS->Option D}
theorem zj {i:Nat} (h:PE X e (tVar i)) (hi:i∉O:=by decide):PE X e (tE X.K O (gVar i)):=h.mono fun σ H Q hh=>hh.e fun U A0 δ d R ed q=>by
 obtain ⟨v,hv,hd⟩:=R.fz i d hi (zB ed)
 exact ⟨v,hv,q v H (Same.refl H) hd⟩
theorem zb {i:Nat} (h:PE X e (tVar i)):PE X e (tSh X.K O (gVar i)):=h.mono fun σ H Q hh=>hh.e fun U A0 δ d R ed q=>by
 obtain ⟨v,hv,hd⟩:=R.at (zB ed)
 exact ⟨v,hv,q v H (Same.refl H) hd⟩
theorem pd_c {v:V} {d:D} (h:PE X e (tC v)) (hd:∀ H,HD X.K H v d):PE X e (tE X.K O (gC d)):=h.mono fun σ H Q hh=>hh.e fun U A0 δ d' R ed q=>by
 cases ed
 exact q v H (Same.refl H) (hd _)
theorem zd {i:Int} (h:PE X e (tC (.int i))):PE X e (tE X.K O (gC (.int i))):=pd_c h fun _=>.int i
theorem zmo {i:Bool} (h:PE X e (tC (.bl i))):PE X e (tE X.K O (gC (.bool i))):=pd_c h fun _=>.bl i
theorem zaW {i:Str} (h:PE X e (tC (.str i))):PE X e (tE X.K O (gC (.str i))):=pd_c h fun _=>.str i
theorem PE.sh (h:PE X e (tE X.K O g)):PE X e (tSh X.K O g):=h.mono fun σ H Q hh=>hh.e fun U A0 δ d R ed q=>⟨U,A0,δ,d,R,ed,fun v H' s z=>q v H' s (.inl z)⟩
theorem zll {K:PySem.W.Frag} {g:DS->Option (List D)} {σ:St} {H:Hp} {Q:VK}:tE K O (gLst g) σ H Q->tN K O g σ H Q:=fun ⟨U,A0,δ,d,R,ed,q⟩=>by
 unfold gLst at ed
 cases eg:g δ with
 | none=>rw [eg] at ed; cases ed
 | some ds=>
   rw [eg] at ed; cases ed
   refine ⟨U,A0,δ,ds,R,eg,fun r ys H' s hr h1 h2=>q _ H' s ?_⟩
   have hn:=R.al.free hr
   exact .lst (.of (by rw [zL hn]; exact h1)) (h2.same (zcJ fun a ha=>List.mem_cons_of_mem _ ha))
theorem PE.nE {g:DS->Option (List D)} (h:PE X e (tN X.K O g)):PE X e (tE X.K O (gLst g)):=h.mono fun _ _ _=>zll
end
noncomputable def g2 (f:D->D->Option D) (a b:DS->Option D):DS->Option D:=fun δ=>(a δ).bind fun x=>(b δ).bind fun y=>f x y
noncomputable def g2N (f:D->D->Option (List D)) (a b:DS->Option D):DS->Option (List D):=fun δ=>(a δ).bind fun x=>(b δ).bind fun y=>f x y
noncomputable def Imp2 (K:PySem.W.Frag) (r:R2) (f:D->D->Option D):Prop:=∀ (A:List Addr) (H:Hp) (x y:V) (dx dy d:D) (Q:VK),Ls A H->ShD K A H x dx->ShD K A H y dy->f dx dy=some d->(∀ v H',Same H H'->HD K (wo H' A) v d->Q v H')->r x y H Q
noncomputable def Imp2N (K:PySem.W.Frag) (r:R2) (f:D->D->Option (List D)):Prop:=∀ (A:List Addr) (H:Hp) (x y:V) (dx dy:D) (ds:List D) (Q:VK),Ls A H->ShD K A H x dx->ShD K A H y dy->f dx dy=some ds->
 (∀ p ys,H p=none->HDs K (wo H A) ys ds->Q (.ref p) (upd H p (.lst ys)))->r x y H Q
theorem bind2 {α β γ:Type} {a:Option α} {b:Option β} {f:α->β->Option γ} {d:γ} (h:(a.bind fun x=>b.bind fun y=>f x y)=some d):∃ x y,a=some x /\ b=some y /\ f x y=some d:=by
 cases a with
 | none=>cases h
 | some x=>cases b with
   | none=>cases h
   | some y=>exact ⟨x,y,rfl,rfl,h⟩
theorem bind1 {α β:Type} {a:Option α} {f:α->Option β} {d:β} (h:a.bind f=some d):∃ x,a=some x /\ f x=some d:=by
 cases a with
 | none=>cases h
 | some x=>exact ⟨x,rfl,h⟩
section
variable {X:Cx} {O:List Nat} {a b:Expr} {ga gb:DS->Option D} {pos:Pos} {r:R2}
theorem zjH {K:PySem.W.Frag} {f:D->D->Option D} (imp:Imp2 K r f) {σ:St} {H:Hp} {Q:VK}:tE K O (g2 f ga gb) σ H Q->tOp r (tSh K O ga) (tSh K O gb) σ H Q:=fun ⟨U,A0,δ,d,R,ed,q⟩=>by
 obtain ⟨x,y,ex,ey,ef⟩:=bind2 ed
 exact ⟨U,A0,δ,x,R,ex,fun v1 H1 s1 h1=>⟨U,A0,δ,y,R.same s1,ey,fun v2 H2 s2 h2=>imp _ H2 v1 v2 x y d Q (R.same (s1.trans s2)).al (h1.same s2) h2 ef fun v H' s h=>q v H' ((s1.trans s2).trans s) h⟩⟩
theorem zg2 {K:PySem.W.Frag} {A:List Addr} {H H2:Hp} {ds:List D} {Q:VK} (s:Same H H2) (q:∀ r ys H',Same H H'->H r=none->H' r=some (.lst ys)->HDs K (wo H' (r :: A)) ys ds->Q (.ref r) H'):∀ p ys,H2 p=none->HDs K (wo H2 A) ys ds->Q (.ref p) (upd H2 p (.lst ys)):=
 fun p ys hp h=>q p ys _ (s.trans (zI hp _)) (s.free hp) zG (by rw [zeX hp]; exact h)
theorem zmQ {K:PySem.W.Frag} {f:D->D->Option (List D)} (imp:Imp2N K r f) {σ:St} {H:Hp} {Q:VK}:tN K O (g2N f ga gb) σ H Q->tOp r (tSh K O ga) (tSh K O gb) σ H Q:=fun ⟨U,A0,δ,d,R,ed,q⟩=>by
 obtain ⟨x,y,ex,ey,ef⟩:=bind2 ed
 exact ⟨U,A0,δ,x,R,ex,fun v1 H1 s1 h1=>⟨U,A0,δ,y,R.same s1,ey,fun v2 H2 s2 h2=>imp _ H2 v1 v2 x y d Q (R.same (s1.trans s2)).al (h1.same s2) h2 ef (zg2 (s1.trans s2) q)⟩⟩
theorem zr {op:Operator} {f:D->D->Option D} (ho:OpR X (binaryOp op) r) (imp:Imp2 X.K r f) (ha:PE X a (tSh X.K O ga)) (hb:PE X b (tSh X.K O gb)):PE X (.BinOp a op b pos) (tE X.K O (g2 f ga gb)):=(zlN ho ha hb).mono fun _ _ _=>zjH imp
theorem zcK {op:Operator} {f:D->D->Option (List D)} (ho:OpR X (binaryOp op) r) (imp:Imp2N X.K r f) (ha:PE X a (tSh X.K O ga)) (hb:PE X b (tSh X.K O gb)):PE X (.BinOp a op b pos) (tN X.K O (g2N f ga gb)):=(zlN ho ha hb).mono fun _ _ _=>zmQ imp
theorem zfC {op:CmpOp} {f:D->D->Option D} (ho:OpR X (compareOp op) r) (imp:Imp2 X.K r f) (ha:PE X a (tSh X.K O ga)) (hb:PE X b (tSh X.K O gb)) (hm:behindInMarks op b=false):PE X (.Compare a [op] [b] pos) (tE X.K O (g2 f ga gb)):=(zki ho ha hb hm).mono fun _ _ _=>zjH imp
noncomputable def gB (g:DS->Option D):DS->Option Bool:=fun δ=>(g δ).bind fun | .bool b=>some b | _=>none
theorem zmI {K:PySem.W.Frag} {g:DS->Option D} {te:TE} (m:∀ σ H Q,tE K O g σ H Q->te σ H Q) {σ:St} {H:Hp} {Q:Bool->Hp->Prop}:tT K O (gB g) σ H Q->te σ H fun x H'=>∃ k,x=.bl k /\ Q k H':=fun ⟨U,A0,δ,b,R,ed,q⟩=>by
 obtain ⟨d,e1,e2⟩:=bind1 ed
 cases d with
 | bool c=>
   cases e2
   exact m σ H _ ⟨U,A0,δ,_,R,e1,fun v H' s h=>by cases h; exact ⟨_,rfl,q H' s⟩⟩
 | _=>cases e2
theorem zJ {op:CmpOp} {f:D->D->Option D} (ho:OpR X (compareOp op) r) (imp:Imp2 X.K r f) (ha:PE X a (tSh X.K O ga)) (hb:PE X b (tSh X.K O gb)) (hm:behindInMarks op b=false):PT X (.Compare a [op] [b] pos) (tT X.K O (gB (g2 f ga gb))):=(zkf ho ha hb hm).mono fun _ _ _=>zmI fun _ _ _=>zjH imp
end
noncomputable def dI (g:Int->Int->D):D->D->Option D
 | .int a,.int b=>some (g a b)
 | _,_=>none
open Classical in
noncomputable def dIc (C:Int->Int->Prop) (g:Int->Int->D):D->D->Option D
 | .int a,.int b=>if C a b then some (g a b) else none
 | _,_=>none
open Classical in
theorem zfx {C:Int->Int->Prop} {g:Int->Int->D} {a b:Int} (h:C a b):dIc C g (.int a) (.int b)=some (g a b):=by
 show (if C a b then some (g a b) else none)=_
 rw [if_pos h]
theorem zm1 {g:Int->Int->D} {a b:Int}:dI g (.int a) (.int b)=some (g a b):=rfl
theorem zcz {K:PySem.W.Frag} {g:Int->Int->Int}:Imp2 K (rI0 fun i j=>.int (g i j)) (dI fun i j=>.int (g i j)):=by
 intro A H x y dx dy d Q al hx hy e q
 unfold dI at e
 split at e
 ·cases e
  exact ⟨_,_,hx.int,hy.int,q _ H (Same.refl H) (.int _)⟩
 ·cases e
theorem zaV {K:PySem.W.Frag} {g:Int->Int->Bool}:Imp2 K (rI0 fun i j=>.bl (g i j)) (dI fun i j=>.bool (g i j)):=by
 intro A H x y dx dy d Q al hx hy e q
 unfold dI at e
 split at e
 ·cases e
  exact ⟨_,_,hx.int,hy.int,q _ H (Same.refl H) (.bl _)⟩
 ·cases e
set_option tactic.hygienic true in
theorem zK {K:PySem.W.Frag} {C:Int->Int->Prop} {g:Int->Int->Int}:Imp2 K (rI C fun i j=>.int (g i j)) (dIc C fun i j=>.int (g i j)):=by
 intro A H x y dx dy d Q al hx hy e q
 unfold dIc at e
 split at e
 ·split at e
  ·rename_i c
   cases e
   exact ⟨_,_,hx.int,hy.int,c,q _ H (Same.refl H) (.int _)⟩
  ·cases e
 ·cases e
noncomputable abbrev dSub:D->D->Option D:=dI fun i j=>.int (i - j)
noncomputable abbrev dMulI:D->D->Option D:=dIc IntMulOk fun i j=>.int (i * j)
noncomputable abbrev dDiv:D->D->Option D:=dIc CDivS fun i j=>.int (i.fdiv j)
noncomputable abbrev dMod:D->D->Option D:=dIc (fun _ j=>j≠0) fun i j=>.int (i.fmod j)
noncomputable abbrev dPow:D->D->Option D:=dIc CPow fun i j=>.int (i ^ j.toNat)
noncomputable abbrev dLt:D->D->Option D:=dI fun i j=>.bool (decide (i < j))
noncomputable abbrev dLe:D->D->Option D:=dI fun i j=>.bool (decide (i<=j))
noncomputable abbrev dGt:D->D->Option D:=dI fun i j=>.bool (decide (j < i))
noncomputable abbrev dGe:D->D->Option D:=dI fun i j=>.bool (decide (j<=i))
noncomputable def dEq:D->D->Option D
 | .int a,.int b=>some (.bool (decide (a=b)))
 | a,b=>if (SeqAt.shaped a && SeqAt.shaped b)=true then some (.bool (PyData.eqv a b)) else none
noncomputable def dNe:D->D->Option D:=fun a b=>(dEq a b).bind fun | .bool c=>some (.bool (!c)) | _=>none
set_option tactic.hygienic true in
theorem zh6 {a b d:D} (h:dEq a b=some d):SeqAt.shaped a=true /\ SeqAt.shaped b=true /\ d=.bool (PyData.eqv a b):=by
 unfold dEq at h
 split at h
 ·cases h
  refine ⟨by simp [SeqAt.shaped,PyData.canLay0,PyData.depth],by simp [SeqAt.shaped,PyData.canLay0,PyData.depth],?_⟩
  rw [PyData.eqv]; rfl
 ·split at h
  ·rename_i c
   rw [Bool.and_eq_true] at c
   cases h
   exact ⟨c.1,c.2,rfl⟩
  ·cases h
noncomputable def rEqH (K:PySem.W.Frag) (neg:Bool):R2:=fun x y H Q=>∃ d e,HD K H x d /\ HD K H y e /\ SeqAt.shaped d=true /\ SeqAt.shaped e=true /\ Q (.bl (if neg=true then !PyData.eqv d e else PyData.eqv d e)) H
section
variable {X:Cx}
theorem zek {k:Nat} (hr:Room k X.A):OpR X (compareOp .Eq) (rEqH X.K false):=by
 intro pins s σ H x y v u Q I rx ry h
 obtain ⟨d,e,h1,h2,s1,s2,q⟩:=h
 obtain ⟨as,r1⟩:=h1.reads I rx (zaP s1)
 obtain ⟨bs,r2⟩:=h2.reads I ry (zaP s2)
 exact eq_dataH r1 r2 s1 s2 hr.units ⟨.bl _,H,I,rfl,q⟩
theorem zmh {k:Nat} (hr:Room k X.A):OpR X (compareOp .NotEq) (rEqH X.K true):=by
 intro pins s σ H x y v u Q I rx ry h
 obtain ⟨d,e,h1,h2,s1,s2,q⟩:=h
 obtain ⟨as,r1⟩:=h1.reads I rx (zaP s1)
 obtain ⟨bs,r2⟩:=h2.reads I ry (zaP s2)
 exact ne_dataH r1 r2 s1 s2 hr.units ⟨.bl _,H,I,rfl,q⟩
end
theorem zea {K:PySem.W.Frag}:Imp2 K (rEqH K false) dEq:=by
 intro A H x y dx dy d Q al hx hy e q
 obtain ⟨a,b,rfl⟩:=zh6 e
 exact ⟨dx,dy,hx.isD,hy.isD,a,b,q _ H (Same.refl H) (.bl _)⟩
theorem zjN {K:PySem.W.Frag}:Imp2 K (rEqH K true) dNe:=by
 intro A H x y dx dy d Q al hx hy e q
 obtain ⟨c,e1,e2⟩:=bind1 e
 obtain ⟨a,b,rfl⟩:=zh6 e1
 cases e2
 exact ⟨dx,dy,hx.isD,hy.isD,a,b,q _ H (Same.refl H) (.bl _)⟩
noncomputable def rCatR (K:PySem.W.Frag):R2:=fun x y H Q=>∃ l b xs zs,x=.ref l /\ y=.ref b /\ LsD K H l xs /\ LsD K H b zs /\ xs.length + zs.length<=sizeLine /\ ∀ p,H p=none->Q (.ref p) (upd H p (.lst (xs ++ zs)))
theorem zbs {X:Cx}:OpR X (binaryOp .Add) (rCatR X.K):=by
 intro pins s σ H x y v u Q I rx ry h
 obtain ⟨l,b,xs,zs,rfl,rfl,hH,hB,hz,q⟩:=h
 cases rx
 cases ry
 obtain ⟨z,its,n,r,e⟩:=I.lsd hH
 obtain ⟨z2,its2,n2,r2,e2⟩:=I.lsd hB
 have hl:=r.length
 have hl2:=r2.length
 refine PySem.P.add_list e e2 ?_ (by rw [List.size_toArray,List.size_toArray]; omega)
 have ea:its.toArray ++ its2.toArray=(its ++ its2).toArray:=by simp
 rw [ea]
 exact ⟨.ref _,_,I.lnew (t':=s.toks) (r.append r2) (by rw [List.length_append]; omega),rfl,q _ I.fresh⟩
noncomputable def dCat:D->D->Option (List D)
 | .list a,.list b=>if a.length + b.length<=100000 then some (a ++ b) else none
 | _,_=>none
set_option tactic.hygienic true in
theorem zbw {K:PySem.W.Frag}:Imp2N K (rCatR K) dCat:=by
 intro A H x y dx dy ds Q al hx hy e q
 unfold dCat at e
 split at e
 ·split at e
  ·rename_i hz
   cases e
   obtain ⟨l,xs,rfl,h1,h2⟩:=hx.list
   obtain ⟨b,zs,rfl,h3,h4⟩:=hy.list
   have:=h2.len
   have:=h4.len
   exact ⟨l,b,xs,zs,rfl,rfl,h1,h3,small (by omega),fun p hp=>q p _ hp (h2.app h4)⟩
  ·cases e
 ·cases e
noncomputable def dAdd:D->D->Option D
 | .int a,.int b=>some (.int (a + b))
 | .str a,.str b=>if a.length + b.length<=100000 then some (.str (a ++ b)) else none
 | .list a,.list b=>if a.length + b.length<=100000 then some (.list (a ++ b)) else none
 | .tuple a,.tuple b=>if a.length + b.length<=100000 /\ a≠[] then some (.tuple (a ++ b)) else none
 | _,_=>none
noncomputable def rAddU (K:PySem.W.Frag):R2:=fun x y H Q=>rI0 (fun i j=>.int (i + j)) x y H Q \/ (∃ i j,x=.str i /\ y=.str j /\ i.length + j.length<=sizeLine /\ Q (.str (i ++ j)) H) \/ rCatR K x y H Q \/ rCatT K x y H Q
theorem zkd {X:Cx}:OpR X (binaryOp .Add) (rAddU X.K):=zlp.or (zf8.or (zbs.or zkN))
theorem HD.newL {K:PySem.W.Frag} {A:List Addr} {H:Hp} {p:Addr} {ys:List V} {ds:List D} (al:Ls A H) (hp:H p=none) (h:HDs K (wo H A) ys ds):HD K (wo (upd H p (.lst ys)) A) (.ref p) (.list ds):=by
 rw [zjQ (al.free hp)]
 have hn:wo H A p=none:=by
  by_cases z:p∈A
  ·exact zcI z
  ·rw [zL z]; exact hp
 exact .lst (.of zG) (h.same (zI hn _))
theorem HD.newT {K:PySem.W.Frag} {A:List Addr} {H:Hp} {p:Addr} {ys:List V} {ds:List D} (al:Ls A H) (hp:H p=none) (h:HDs K (wo H A) ys ds):HD K (wo (upd H p (.tup ys)) A) (.ref p) (.tuple ds):=by
 rw [zjQ (al.free hp)]
 have hn:wo H A p=none:=by
  by_cases z:p∈A
  ·exact zcI z
  ·rw [zL z]; exact hp
 exact .tup (.inl zG) (h.same (zI hn _))
set_option tactic.hygienic true in
theorem zkY {K:PySem.W.Frag}:Imp2 K (rAddU K) dAdd:=by
 intro A H x y dx dy d Q al hx hy e q
 unfold dAdd at e
 split at e
 ·cases e
  exact .inl ⟨_,_,hx.int,hy.int,q _ H (Same.refl H) (.int _)⟩
 ·split at e
  ·cases e
   exact .inr (.inl ⟨_,_,hx.str,hy.str,small (by assumption),q _ H (Same.refl H) (.str _)⟩)
  ·cases e
 ·split at e
  ·rename_i hz
   cases e
   refine .inr (.inr (.inl (zbw (K:=K) A H x y _ _ _ Q al hx hy (show (if _ then some _ else none)=some _ from if_pos hz) fun p ys hp h=>?_)))
   exact q _ _ (zI hp _) (HD.newL al hp h)
  ·cases e
 ·split at e
  ·rename_i hz
   cases e
   have hx':=hx.fz
   obtain ⟨a,xs,rfl,h1,h2⟩:=hx.tuple
   obtain ⟨b,zs,rfl,h3,h4⟩:=hy.tuple
   have l2:=h2.len
   have l4:=h4.len
   refine .inr (.inr (.inr ⟨a,b,xs,zs,rfl,rfl,h1,h3,?_,small (by omega),fun z=>?_,fun z p hp=>?_⟩))
   ·intro z; subst z; cases h2; exact hz.2 rfl
   ·subst z; cases h4
    rw [List.append_nil] at q
    exact q _ H (Same.refl H) hx'
   ·exact q _ _ (zI hp _) (HD.newT al hp (h2.app h4))
  ·cases e
 ·cases e
noncomputable def dIx:D->D->Option D
 | .list ds,.int i=>atI ds i
 | .tuple ds,.int i=>atI ds i
 | .str z,.int i=>if z.length<=100000 then (atI z.cps.toList i).map fun c=>.str ⟨#[c]⟩ else none
 | _,_=>none
theorem HDs.atI {K:PySem.W.Frag} {H:Hp} {xs:List V} {ds:List D} {i:Int} {d:D} (h:HDs K H xs ds) (e:atI ds i=some d):∃ v,L2.atI xs i=some v /\ HD K H v d:=by
 unfold L2.atI at e ⊢
 obtain ⟨j,e1,e2⟩:=bind1 e
 rw [h.len,e1]
 obtain ⟨x,hx,q⟩:=h.get e2
 exact ⟨x,hx,q⟩
set_option tactic.hygienic true in
theorem zmD {K:PySem.W.Frag}:Imp2 K (rIx K) dIx:=by
 intro A H x y dx dy d Q al hx hy e q
 unfold dIx at e
 split at e
 ·obtain ⟨l,xs,rfl,h1,h2⟩:=hx.list
  obtain ⟨v,e1,e2⟩:=h2.atI e
  exact .inl ⟨l,xs,_,v,rfl,hy.int,h1.sq,e1,q _ H (Same.refl H) e2⟩
 ·obtain ⟨l,xs,rfl,h1,h2⟩:=hx.tuple
  obtain ⟨v,e1,e2⟩:=h2.atI e
  exact .inr (.inl ⟨l,xs,_,v,rfl,hy.int,h1,e1,q _ H (Same.refl H) e2⟩)
 ·split at e
  ·rename_i z i hz
   cases ec:L2.atI z.cps.toList i with
   | none=>rw [ec] at e; cases e
   | some c=>
     rw [ec] at e; cases e
     exact .inr (.inr ⟨z,i,c,hx.str,hy.int,small hz,ec,q _ H (Same.refl H) (.str _)⟩)
  ·cases e
 ·cases e
section
variable {X:Cx} {O:List Nat} {a b:Expr} {ga gb:DS->Option D} {pos:Pos}
theorem zaR (ha:PE X a (tSh X.K O ga)) (hb:PE X b (tSh X.K O gb)) (hs:PlainIx b:=by exact fun _ _=>rfl):PE X (.Subscript a b pos) (tE X.K O (g2 dIx ga gb)):=(zmW zl8 ha hb hs).mono fun _ _ _=>zjH zmD
end
noncomputable def g1 (f:D->Option D) (a:DS->Option D):DS->Option D:=fun δ=>(a δ).bind f
section
variable {X:Cx} {O:List Nat} {a b c:Expr} {ga gb:DS->Option D} {pos:Pos}
noncomputable def gAndV (a b:DS->Option D):DS->Option D:=fun δ=>(gB a δ).bind fun x=>if x=true then b δ else some (.bool false)
theorem zkq {g:DS->Option D} {δ:DS} {b:Bool} (h:gB g δ=some b):g δ=some (.bool b):=by
 obtain ⟨d,e1,e2⟩:=bind1 h
 cases d with
 | bool c=>cases e2; exact e1
 | _=>cases e2
theorem zmj {rest:List Expr} (ha:PE X a (tE X.K O ga)) (hb:PE X (.BoolOp .And (b :: rest) pos) (tE X.K O gb)):PE X (.BoolOp .And (a :: b :: rest) pos) (tE X.K O (gAndV ga gb)):=(zmb ha hb).mono fun σ H Q hh=>hh.e fun U A0 δ d R ed q=>by
 obtain ⟨x,e1,e2⟩:=bind1 ed
 refine ⟨U,A0,δ,_,R,zkq e1,fun v H' s h=>?_⟩
 cases h
 refine ⟨x,rfl,?_⟩
 cases x with
 | true=>rw [if_pos rfl] at e2 ⊢; exact ⟨U,A0,δ,d,R.same s,e2,fun v H2 s2 h2=>q v H2 (s.trans s2) h2⟩
 | false=>rw [if_neg Bool.false_ne_true] at e2 ⊢; cases e2; exact q _ H' s (.bl _)
noncomputable def gAnd (a b:DS->Option Bool):DS->Option Bool:=fun δ=>(a δ).bind fun x=>if x=true then b δ else some false
noncomputable def gOr (a b:DS->Option Bool):DS->Option Bool:=fun δ=>(a δ).bind fun x=>if x=true then some true else b δ
noncomputable def gNot (a:DS->Option Bool):DS->Option Bool:=fun δ=>(a δ).map fun x=> !x
variable {ta tb:DS->Option Bool} {rest:List Expr}
theorem zh3 (ha:PT X a (tT X.K O ta)) (hb:PW X (.BoolOp .And (b :: rest) pos) (tT X.K O tb)):PW X (.BoolOp .And (a :: b :: rest) pos) (tT X.K O (gAnd ta tb)):=(zmp ha hb).mono fun σ H Q hh=>hh.e fun U A0 δ d R ed q=>by
 obtain ⟨x,e1,e2⟩:=bind1 ed
 refine ⟨U,A0,δ,_,R,e1,fun H' s=>?_⟩
 cases x with
 | true=>rw [if_pos rfl] at e2 ⊢; exact ⟨U,A0,δ,d,R.same s,e2,fun H2 s2=>q H2 (s.trans s2)⟩
 | false=>rw [if_neg Bool.false_ne_true] at e2 ⊢; cases e2; exact q H' s
theorem zfU (ha:PT X a (tT X.K O ta)) (hb:PW X (.BoolOp .Or (b :: rest) pos) (tT X.K O tb)):PW X (.BoolOp .Or (a :: b :: rest) pos) (tT X.K O (gOr ta tb)):=(zmK ha hb).mono fun σ H Q hh=>hh.e fun U A0 δ d R ed q=>by
 obtain ⟨x,e1,e2⟩:=bind1 ed
 refine ⟨U,A0,δ,_,R,e1,fun H' s=>?_⟩
 cases x with
 | true=>rw [if_pos rfl] at e2 ⊢; cases e2; exact q H' s
 | false=>rw [if_neg Bool.false_ne_true] at e2 ⊢; exact ⟨U,A0,δ,d,R.same s,e2,fun H2 s2=>q H2 (s.trans s2)⟩
theorem zcH (ha:PT X a (tT X.K O ta)):PT X (.UnaryOp .Not a pos) (tT X.K O (gNot ta)):=(zlQ ha).mono fun σ H Q hh=>hh.e fun U A0 δ d R ed q=>by
 unfold gNot at ed
 cases e:ta δ with
 | none=>rw [e] at ed; cases ed
 | some x=>rw [e] at ed; cases ed; exact ⟨U,A0,δ,x,R,e,fun H' s=>q H' s⟩
noncomputable def dTru:D->Option Bool
 | .none=>some false
 | .bool b=>some b
 | .int i=>some (i != 0)
 | .str x=>if x.length<=100000 then some ((x.length:Int) != 0) else none
 | .list l=>some (!l.isEmpty)
 | .tuple l=>some (!l.isEmpty)
 | _=>none
noncomputable def gTru (g:DS->Option D):DS->Option Bool:=fun δ=>(g δ).bind dTru
theorem zc5 {K:PySem.W.Frag} {H:Hp} {xs:List V} {ds:List D} (h:HDs K H xs ds):xs.isEmpty=ds.isEmpty:=by cases h <;> rfl
theorem zbk (ha:PE X a (tSh X.K O ga)) (he:∀ whole,isTrue a X.env whole=(do let v <- whole; standAt a.pos; holding [v] (truthy v)):=by exact fun _=>rfl):PT X a (tT X.K O (gTru ga)):=(ziN ha he).mono fun σ H Q hh=>hh.e fun U A0 δ k R ed q=>by
 obtain ⟨d,e1,e2⟩:=bind1 ed
 refine ⟨U,A0,δ,d,R,e1,fun v H' s h=>⟨k,?_,q H' s⟩⟩
 cases d with
 | none=>cases e2; rw [h.non]; exact rfl
 | bool b=>cases e2; rw [h.bool]; exact rfl
 | int i=>cases e2; rw [h.int]; exact rfl
 | str x=>
   rw [h.str]
   have e3:(if x.length<=100000 then some ((x.length:Int) != 0) else none)=some k:=e2
   split at e3
   ·cases e3; exact ⟨small (by assumption),rfl⟩
   ·cases e3
 | list l=>
   cases e2
   obtain ⟨p,xs,rfl,h1,h2⟩:=h.list
   exact .inl ⟨xs,h1.sq,by rw [zc5 h2]⟩
 | tuple l=>
   cases e2
   obtain ⟨p,xs,rfl,h1,h2⟩:=h.tuple
   exact .inr (.inl ⟨xs,h1,by rw [zc5 h2]⟩)
 | dict _=>cases e2
end
noncomputable def gNilA:DS->Option (List D):=fun _=>some []
noncomputable def gConsA (a:DS->Option D) (r:DS->Option (List D)):DS->Option (List D):=fun δ=>(a δ).bind fun x=>(r δ).bind fun xs=>some (x :: xs)
noncomputable def gTupD (r:DS->Option (List D)):DS->Option D:=fun δ=>(r δ).bind fun xs=>if xs.length<=100000 then some (.tuple xs) else none
noncomputable def gLstN (r:DS->Option (List D)):DS->Option (List D):=fun δ=>(r δ).bind fun xs=>if xs.length<=100000 then some xs else none
section
variable {X:Cx} {O:List Nat} {e:Expr} {es:List Expr} {ga:DS->Option D} {gr:DS->Option (List D)} {pos:Pos}
theorem zc:PA X [] (tAs X.K O gNilA):=zY.mono fun σ H Q hh=>hh.e fun U A0 δ d R ed q=>by cases ed; exact q [] H (Same.refl H) .nil
theorem za (ha:PE X e (tE X.K O ga)) (hr:PA X es (tAs X.K O gr)) (hs:starEach (e :: es) X.env=(false,eval e X.env) :: starEach es X.env:=by rfl):PA X (e :: es) (tAs X.K O (gConsA ga gr)):=(zC ha hr hs).mono fun σ H Q hh=>hh.e fun U A0 δ ds R ed q=>by
 obtain ⟨x,xs,e1,e2,e3⟩:=bind2 ed
 cases e3
 exact ⟨U,A0,δ,x,R,e1,fun v H1 s1 h1=>⟨U,A0,δ,xs,R.same s1,e2,fun vs H2 s2 h2=>q _ H2 (s1.trans s2) (.cons (h1.same (zac s2)) h2)⟩⟩
theorem zo:PA X [] (tAsh X.K O gNilA):=zY.mono fun σ H Q hh=>hh.e fun U A0 δ d R ed q=>by cases ed; exact q [] H (Same.refl H) .nil
theorem zh (ha:PE X e (tSh X.K O ga)) (hr:PA X es (tAsh X.K O gr)) (hs:starEach (e :: es) X.env=(false,eval e X.env) :: starEach es X.env:=by rfl):PA X (e :: es) (tAsh X.K O (gConsA ga gr)):=(zC ha hr hs).mono fun σ H Q hh=>hh.e fun U A0 δ ds R ed q=>by
 obtain ⟨x,xs,e1,e2,e3⟩:=bind2 ed
 cases e3
 exact ⟨U,A0,δ,x,R,e1,fun v H1 s1 h1=>⟨U,A0,δ,xs,R.same s1,e2,fun vs H2 s2 h2=>q _ H2 (s1.trans s2) (.cons (h1.same s2) h2)⟩⟩
set_option tactic.hygienic true in
theorem zap {x1} (h:PA X es (tAs X.K O gr)):PE X (.Tuple es x1 pos) (tE X.K O (gTupD gr)):=(zlu h).mono fun σ H Q hh=>hh.e fun U A0 δ d R ed q=>by
 obtain ⟨xs,e1,e2⟩:=bind1 ed
 split at e2
 ·rename_i hz
  cases e2
  refine ⟨U,A0,δ,xs,R,e1,fun vs H' s h=>⟨by have:=h.len; exact small (by omega),fun p hp=>q _ _ (s.trans (zI hp _)) (HD.newT (R.same s).al hp h)⟩⟩
 ·cases e2
set_option tactic.hygienic true in
theorem zaq (h:PA X es (tAs X.K O gr)):PE X (.List es pos) (tN X.K O (gLstN gr)):=(zmc h).mono fun σ H Q hh=>hh.e fun U A0 δ d R ed q=>by
 obtain ⟨xs,e1,e2⟩:=bind1 ed
 split at e2
 ·rename_i hz
  cases e2
  refine ⟨U,A0,δ,d,R,e1,fun vs H' s h=>⟨by have:=h.len; exact small (by omega),fun p hp=>zg2 s q p vs hp h⟩⟩
 ·cases e2
end
noncomputable def spD (K:PySem.W.Frag) (n:Nat) (G:List D->Option D):Sp:=fun vs H Q _=>vs.length=n /\ ∃ A ds d,Ls A H /\ HDs K (wo H A) vs ds /\ G ds=some d /\ ∀ v H',Same H H'->HD K (wo H' A) v d->Q v H'
noncomputable def spN (K:PySem.W.Frag) (n:Nat) (G:List D->Option (List D)):Sp:=fun vs H Q _=>vs.length=n /\ ∃ A ds d,Ls A H /\ HDs K (wo H A) vs ds /\ G ds=some d /\
 ∀ r ys H',Same H H'->H r=none->H' r=some (.lst ys)->HDs K (wo H' (r :: A)) ys d->Q (.ref r) H'
noncomputable def gCall (G:List D->Option D) (n:Nat) (g:DS->Option (List D)):DS->Option D:=fun δ=>(g δ).bind fun ds=>if ds.length=n then G ds else none
noncomputable def gCallN (G:List D->Option (List D)) (n:Nat) (g:DS->Option (List D)):DS->Option (List D):=fun δ=>(g δ).bind fun ds=>if ds.length=n then G ds else none
section
variable {X:Cx} {O:List Nat} {e:Expr} {es:List Expr} {gr:DS->Option (List D)} {pos p:Pos} {n k kk:Nat} {x:Str} {ps:List Str}
set_option tactic.hygienic true in
theorem zaA {G:List D->Option D} (F:Dn X.prog X.w X.K X.mg X.base k x ps (spD X.K n G)) (hr:Room kk X.A) (hk:k<=kk) (ha:PA X (e :: es) (tAs X.K O gr)) (hg:Gl X x:=by rfl)
  (hdb:(x == ("__debug__":Str))=false:=by decide) (he:starEach (e :: es) X.env=(false,eval e X.env) :: starEach es X.env:=by rfl) (hpl:(backTo pos (starEach es X.env)).any (·.1)=false:=by rfl):
  PE X (.Call (.Name x p) (e :: es) [] pos) (tE X.K O (gCall G n gr)):=(zmg F hr hk ha hg hdb he hpl).mono fun σ H Q hh=>hh.e fun U A0 δ d R ed q=>by
 obtain ⟨ds,e1,e2⟩:=bind1 ed
 split at e2
 ·rename_i hn
  refine ⟨U,A0,δ,ds,R,e1,fun vs H' s h=>?_⟩
  show spD X.K n G (vs ++ []) H' Q E0
  rw [List.append_nil]
  exact ⟨by rw [h.len]; exact hn,U ++ A0,ds,d,(R.same s).al,h,e2,fun v H2 s2 h2=>q v H2 (s.trans s2) h2⟩
 ·cases e2
set_option tactic.hygienic true in
theorem zR {G:List D->Option (List D)} (F:Dn X.prog X.w X.K X.mg X.base k x ps (spN X.K n G)) (hr:Room kk X.A) (hk:k<=kk) (ha:PA X (e :: es) (tAs X.K O gr)) (hg:Gl X x:=by rfl)
  (hdb:(x == ("__debug__":Str))=false:=by decide) (he:starEach (e :: es) X.env=(false,eval e X.env) :: starEach es X.env:=by rfl) (hpl:(backTo pos (starEach es X.env)).any (·.1)=false:=by rfl):
  PE X (.Call (.Name x p) (e :: es) [] pos) (tN X.K O (gCallN G n gr)):=(zmg F hr hk ha hg hdb he hpl).mono fun σ H Q hh=>hh.e fun U A0 δ d R ed q=>by
 obtain ⟨ds,e1,e2⟩:=bind1 ed
 split at e2
 ·rename_i hn
  refine ⟨U,A0,δ,ds,R,e1,fun vs H' s h=>?_⟩
  show spN X.K n G (vs ++ []) H' Q E0
  rw [List.append_nil]
  exact ⟨by rw [h.len]; exact hn,U ++ A0,ds,d,(R.same s).al,h,e2,fun r ys H2 s2 h0 h1 h2=>q r ys H2 (s.trans s2) (s.free h0) h1 h2⟩
 ·cases e2
end
noncomputable def ImpC (K:PySem.W.Frag) (r:List V->Hp->VK->Prop) (f:List D->Option D):Prop:=∀ (A:List Addr) (H:Hp) (vs:List V) (ds:List D) (d:D) (Q:VK),Ls A H->ShDs K A H vs ds->f ds=some d->(∀ v H',Same H H'->HD K (wo H' A) v d->Q v H')->r vs H Q
noncomputable def ImpCN (K:PySem.W.Frag) (r:List V->Hp->VK->Prop) (f:List D->Option (List D)):Prop:=∀ (A:List Addr) (H:Hp) (vs:List V) (ds:List D) (d:List D) (Q:VK),Ls A H->ShDs K A H vs ds->f ds=some d->
 (∀ p ys,H p=none->HDs K (wo H A) ys d->Q (.ref p) (upd H p (.lst ys)))->r vs H Q
noncomputable def gB1 (f:List D->Option D) (g:DS->Option (List D)):DS->Option D:=fun δ=>(g δ).bind f
noncomputable def gB1N (f:List D->Option (List D)) (g:DS->Option (List D)):DS->Option (List D):=fun δ=>(g δ).bind f
section
variable {X:Cx} {O:List Nat} {e:Expr} {es:List Expr} {gr:DS->Option (List D)} {pos p:Pos} {x:Str} {r:List V->Hp->VK->Prop} {id T:String}
theorem zlV {K:PySem.W.Frag} {f:List D->Option D} (imp:ImpC K r f) {σ:St} {H:Hp} {Q:VK}:tE K O (gB1 f gr) σ H Q->tCB r (tAsh K O gr) σ H Q:=fun ⟨U,A0,δ,d,R,ed,q⟩=>by
 obtain ⟨ds,e1,e2⟩:=bind1 ed
 exact ⟨U,A0,δ,ds,R,e1,fun vs H' s h=>imp _ H' vs ds d Q (R.same s).al h e2 fun v H2 s2 h2=>q v H2 (s.trans s2) h2⟩
theorem zm2 {K:PySem.W.Frag} {f:List D->Option (List D)} (imp:ImpCN K r f) {σ:St} {H:Hp} {Q:VK}:tN K O (gB1N f gr) σ H Q->tCB r (tAsh K O gr) σ H Q:=fun ⟨U,A0,δ,d,R,ed,q⟩=>by
 obtain ⟨ds,e1,e2⟩:=bind1 ed
 exact ⟨U,A0,δ,ds,R,e1,fun vs H' s h=>imp _ H' vs ds d Q (R.same s).al h e2 (zg2 s q)⟩
theorem zw {f:List D->Option D} (hc:CallR X (.builtin id) r) (imp:ImpC X.K r f) (hg:Gl X x) (hm:X.mg x=none) (hv:bootBuiltins x=some (.builtin id)) (ha:PA X (e :: es) (tAsh X.K O gr)) (hn:x≠"__name__":=by decide) (hdb:(x == ("__debug__":Str))=false:=by decide)
  (he:starEach (e :: es) X.env=(false,eval e X.env) :: starEach es X.env:=by rfl) (hpl:(backTo pos (starEach es X.env)).any (·.1)=false:=by rfl):PE X (.Call (.Name x p) (e :: es) [] pos) (tE X.K O (gB1 f gr)):=
 (zcn hc hg hm hv ha hn hdb he hpl).mono fun _ _ _=>zlV imp
theorem zcx {f:List D->Option D} (hc:CallR X (.type T) r) (imp:ImpC X.K r f) (hg:Gl X x) (hm:X.mg x=none) (hv:bootBuiltins x=some (.type T)) (ha:PA X (e :: es) (tAsh X.K O gr)) (hn:x≠"__name__":=by decide) (hdb:(x == ("__debug__":Str))=false:=by decide)
  (he:starEach (e :: es) X.env=(false,eval e X.env) :: starEach es X.env:=by rfl) (hpl:(backTo pos (starEach es X.env)).any (·.1)=false:=by rfl):PE X (.Call (.Name x p) (e :: es) [] pos) (tE X.K O (gB1 f gr)):=
 (zcv hc hg hm hv ha hn hdb he hpl).mono fun _ _ _=>zlV imp
theorem zc9 {f:List D->Option (List D)} (hc:CallR X (.type T) r) (imp:ImpCN X.K r f) (hg:Gl X x) (hm:X.mg x=none) (hv:bootBuiltins x=some (.type T)) (ha:PA X (e :: es) (tAsh X.K O gr)) (hn:x≠"__name__":=by decide) (hdb:(x == ("__debug__":Str))=false:=by decide)
  (he:starEach (e :: es) X.env=(false,eval e X.env) :: starEach es X.env:=by rfl) (hpl:(backTo pos (starEach es X.env)).any (·.1)=false:=by rfl):PE X (.Call (.Name x p) (e :: es) [] pos) (tN X.K O (gB1N f gr)):=
 (zcv hc hg hm hv ha hn hdb he hpl).mono fun _ _ _=>zm2 imp
end
theorem sh1 {K:PySem.W.Frag} {A:List Addr} {H:Hp} {vs:List V} {d:D} (h:ShDs K A H vs [d]):∃ v,vs=[v] /\ ShD K A H v d:=by
 unfold ShDs at h
 cases h with
 | cons a t=>cases t; exact ⟨_,rfl,a⟩
theorem sh2 {K:PySem.W.Frag} {A:List Addr} {H:Hp} {vs:List V} {d e:D} (h:ShDs K A H vs [d,e]):∃ v u,vs=[v,u] /\ ShD K A H v d /\ ShD K A H u e:=by
 unfold ShDs at h
 cases h with
 | cons a t=>cases t with
   | cons b t=>cases t; exact ⟨_,_,rfl,a,b⟩
noncomputable def dLen:List D->Option D
 | [.list l]=>some (.int l.length)
 | [.tuple l]=>some (.int l.length)
 | [.str z]=>if z.length<=100000 then some (.int z.length) else none
 | _=>none
theorem zA {X:Cx}:CallR X (.builtin "len") (fun xs H Q=>(∃ p ys,xs=[.ref p] /\ (SqL X.K H p ys \/ SqT X.K H p ys) /\ Q (.int ys.length) H) \/ ∃ z,xs=[.str z] /\ z.length<=sizeLine /\ Q (.int z.length) H):=zes.or zdR
theorem z0 {K:PySem.W.Frag}:ImpC K (fun xs H Q=>(∃ p ys,xs=[.ref p] /\ (SqL K H p ys \/ SqT K H p ys) /\ Q (.int ys.length) H) \/ ∃ z,xs=[.str z] /\ z.length<=sizeLine /\ Q (.int z.length) H) dLen:=by
 intro A H vs ds d Q al h e q
 unfold dLen at e
 split at e
 ·cases e
  obtain ⟨v,rfl,h1⟩:=sh1 h
  clear h
  have h:=h1
  obtain ⟨p,xs,rfl,h1,h2⟩:=h.list
  refine .inl ⟨p,xs,rfl,.inl h1.sq,?_⟩
  rw [h2.len]
  exact q _ H (Same.refl H) (.int _)
 ·cases e
  obtain ⟨v,rfl,h1⟩:=sh1 h
  clear h
  have h:=h1
  obtain ⟨p,xs,rfl,h1,h2⟩:=h.tuple
  refine .inl ⟨p,xs,rfl,.inr h1,?_⟩
  rw [h2.len]
  exact q _ H (Same.refl H) (.int _)
 ·split at e
  ·cases e
   obtain ⟨v,rfl,h1⟩:=sh1 h
   exact .inr ⟨_,by rw [h1.str],small (by assumption),q _ H (Same.refl H) (.int _)⟩
  ·cases e
 ·cases e
noncomputable def dAbs:List D->Option D
 | [.int i]=>some (.int (if i < 0 then -i else i))
 | _=>none
theorem zkD {K:PySem.W.Frag}:ImpC K (fun xs H Q=>∃ i,xs=[.int i] /\ Q (.int (if i < 0 then -i else i)) H) dAbs:=by
 intro A H vs ds d Q al h e q
 unfold dAbs at e
 split at e
 ·cases e
  obtain ⟨v,rfl,h1⟩:=sh1 h
  clear h
  have h:=h1
  exact ⟨_,by rw [h.int],q _ H (Same.refl H) (.int _)⟩
 ·cases e
noncomputable def dMax2:List D->Option D
 | [.int i,.int j]=>some (.int (if j > i then j else i))
 | _=>none
theorem zkF {K:PySem.W.Frag}:ImpC K (fun xs H Q=>∃ i j,xs=[.int i,.int j] /\ Q (.int (if j > i then j else i)) H) dMax2:=by
 intro A H vs ds d Q al h e q
 unfold dMax2 at e
 split at e
 ·cases e
  obtain ⟨v,u,rfl,h1,h'⟩:=sh2 h
  clear h
  have h:=h1
  exact ⟨_,_,by rw [h.int,h'.int],q _ H (Same.refl H) (.int _)⟩
 ·cases e
noncomputable def dInt:List D->Option D
 | [.int i]=>some (.int i)
 | [.bool k]=>some (.int (if k then 1 else 0))
 | _=>none
theorem zlb {K:PySem.W.Frag}:ImpC K (fun xs H Q=>(∃ i,xs=[.int i] /\ Q (.int i) H) \/ ∃ k,xs=[.bl k] /\ Q (.int (if k then 1 else 0)) H) dInt:=by
 intro A H vs ds d Q al h e q
 unfold dInt at e
 split at e
 ·cases e
  obtain ⟨v,rfl,h1⟩:=sh1 h
  clear h
  have h:=h1
  exact .inl ⟨_,by rw [h.int],q _ H (Same.refl H) (.int _)⟩
 ·cases e
  obtain ⟨v,rfl,h1⟩:=sh1 h
  clear h
  have h:=h1
  exact .inr ⟨_,by rw [h.bool],q _ H (Same.refl H) (.int _)⟩
 ·cases e
noncomputable def dListN:List D->Option (List D)
 | [.list l]=>some l
 | [.tuple l]=>some l
 | _=>none
theorem zfD {K:PySem.W.Frag}:ImpCN K (fun xs H Q=>∃ p ys,xs=[.ref p] /\ (SqL K H p ys \/ SqT K H p ys) /\ ∀ l,H l=none->Q (.ref l) (upd H l (.lst ys))) dListN:=by
 intro A H vs ds d Q al h e q
 unfold dListN at e
 split at e
 ·cases e
  obtain ⟨v,rfl,h1⟩:=sh1 h
  clear h
  have h:=h1
  obtain ⟨p,xs,rfl,h1,h2⟩:=h.list
  exact ⟨p,xs,rfl,.inl h1.sq,fun l hl=>q l xs hl h2⟩
 ·cases e
  obtain ⟨v,rfl,h1⟩:=sh1 h
  clear h
  have h:=h1
  obtain ⟨p,xs,rfl,h1,h2⟩:=h.tuple
  exact ⟨p,xs,rfl,.inr h1,fun l hl=>q l xs hl h2⟩
 ·cases e
noncomputable def dTupleOf:List D->Option D
 | [.list l]=>some (.tuple l)
 | [.tuple l]=>some (.tuple l)
 | _=>none
theorem zd9 {K:PySem.W.Frag}:ImpC K (fun xs H Q=>∃ p ys,xs=[.ref p] /\ ((SqL K H p ys /\ ∀ l,H l=none->Q (.ref l) (upd H l (.tup ys))) \/ (SqT K H p ys /\ Q (.ref p) H))) dTupleOf:=by
 intro A H vs ds d Q al h e q
 unfold dTupleOf at e
 split at e
 ·cases e
  obtain ⟨v,rfl,h1⟩:=sh1 h
  clear h
  have h:=h1
  obtain ⟨p,xs,rfl,h1,h2⟩:=h.list
  exact ⟨p,xs,rfl,.inl ⟨h1.sq,fun l hl=>q _ _ (zI hl _) (HD.newT al hl h2)⟩⟩
 ·cases e
  obtain ⟨v,rfl,h1⟩:=sh1 h
  clear h
  have h:=h1
  have h':=h.fz
  obtain ⟨p,xs,rfl,h1,h2⟩:=h.tuple
  exact ⟨p,xs,rfl,.inr ⟨h1,q _ H (Same.refl H) h'⟩⟩
 ·cases e
noncomputable def tyName:D->String
 | .none=>"NoneType"
 | .bool _=>"bool"
 | .int _=>"int"
 | .str _=>"str"
 | .list _=>"list"
 | .tuple _=>"tuple"
 | .dict _=>"dict"
end L2
namespace L2
open PySem PySem.Spec PyProof.Rows
theorem zmm {K:PySem.W.Frag} {t n:String} {b:Bool} (h:(Value.type t == Value.type n)=false) (h2:PySem.W.kitMeta n=true) (h3:(fastBuiltinMro t).map (·.contains (Value.type n))=some b):PySem.W.kitOne K (.type t) (.type n)=some b:=by
 unfold PySem.W.kitOne PySem.W.kitCls
 rw [h,if_neg (by decide)]
 show (if PySem.W.kitMeta n=true then PySem.W.subIn K (.type t) (.type n) else none)=some b
 rw [if_pos h2]
 exact h3
noncomputable def isiNames:List String:=["int","bool","str","list","tuple","NoneType"]
noncomputable def dIsi (n:String):List D->Option D
 | [d]=>if tyName d∈isiNames /\ n∈isiNames then some (.bool (decide (tyName d=n) || (decide (tyName d="bool") && decide (n="int")))) else none
 | _=>none
theorem zk4 {K:PySem.W.Frag} {t n:String} (ht:t∈isiNames) (hn:n∈isiNames):PySem.W.kitOne K (.type t) (.type n)=some (decide (t=n) || (decide (t="bool") && decide (n="int"))):=by
 by_cases h:t=n
 ·subst h
  rw [ziW]; simp
 ·have all:∀ t∈isiNames,∀ n∈isiNames,t≠n->(Value.type t == Value.type n)=false /\ PySem.W.kitMeta n=true /\ (fastBuiltinMro t).map (·.contains (Value.type n))=some (decide (t=n) || (decide (t="bool") && decide (n="int"))):=by decide +kernel
  obtain ⟨h1,h2,h3⟩:=all t ht n hn h
  exact zmm h1 h2 h3
theorem ShD.ty {K:PySem.W.Frag} {A:List Addr} {H:Hp} {v:V} {d:D} (h:ShD K A H v d) (hn:tyName d∈isiNames):TyW K H v (tyName d):=by
 cases d with
 | none=>rw [h.non]; exact .inl .non
 | bool b=>rw [h.bool]; exact .inl (.bl b)
 | int i=>rw [h.int]; exact .inl (.int i)
 | str x=>rw [h.str]; exact .inl (.str x)
 | list l=>obtain ⟨p,xs,rfl,h1,_⟩:=h.list; exact .inr (.inr ⟨p,xs,rfl,h1.sq,rfl⟩)
 | tuple l=>obtain ⟨p,xs,rfl,h1,_⟩:=h.tuple; exact .inr (.inl ⟨p,xs,rfl,h1,rfl⟩)
 | dict l=>simp [tyName,isiNames] at hn
section
variable {X:Cx} {O:List Nat} {e:Expr} {ga:DS->Option D} {pos p p2:Pos}
noncomputable def gIsi (n:String) (g:DS->Option D):DS->Option D:=fun δ=>(g δ).bind fun d=>dIsi n [d]
set_option tactic.hygienic true in
theorem zj4 {n:Str} (T:String) (hB:X.mg "isinstance"=none) (ha:PE X e (tSh X.K O ga)) (ht:PE X (.Name n p2) (tC (.ty T))) (hg:Gl X "isinstance":=by rfl)
  (he:starEach [e,.Name n p2] X.env=(false,eval e X.env) :: starEach [.Name n p2] X.env:=by rfl) (he2:starEach [.Name n p2] X.env=(false,eval (.Name n p2) X.env) :: starEach [] X.env:=by rfl) (hpl:(backTo pos (starEach [.Name n p2] X.env)).any (·.1)=false:=by rfl):
  PE X (.Call (.Name "isinstance" p) [e,.Name n p2] [] pos) (tE X.K O (gIsi T ga)):=
 (zcn ziU hg hB zbK (zC ha (zC ht zY he2) he) (by decide) (by decide) he hpl).mono fun σ H Q hh=>hh.e fun U A0 δ d R ed q=>by
  obtain ⟨x,e1,e2⟩:=bind1 ed
  have e3:(if tyName x∈isiNames /\ T∈isiNames then some (PyData.bool (decide (tyName x=T) || (decide (tyName x="bool") && decide (T="int")))) else none)=some d:=e2
  split at e3
  ·rename_i hz
   cases e3
   refine ⟨U,A0,δ,x,R,e1,fun v H' s h=>?_⟩
   exact ⟨v,T,tyName x,_,rfl,h.ty hz.1,zk4 hz.1 hz.2,q _ H' s (.bl _)⟩
  ·cases e3
end
noncomputable def gPart (g:DS->Option D):DS->Option (Option Int):=fun δ=>(g δ).bind fun | .int i=>some (some i) | _=>none
noncomputable def tOs (K:PySem.W.Frag) (O:List Nat) (g:DS->Option (Option Int)):TO:=fun σ H Q=>∃ U A0 δ d,Rel K O U A0 σ δ H /\ g δ=some d /\ ∀ H',Same H H'->Q d H'
theorem tOs.e {K:PySem.W.Frag} {O:List Nat} {g:DS->Option (Option Int)}  {σ:_} {H:_} {Q:_} {GG:Prop} (hh:tOs K O g σ H Q) (kk:∀ U A0 δ d,(Rel K O U A0 σ δ H)->(g δ=some d)->(∀ H',Same H H'->Q d H')->GG):GG:=by obtain ⟨U,A0,δ,d,x0,x1,x2⟩:=hh; exact kk U A0 δ d x0 x1 x2
noncomputable def cutD (xs:List D) (lo hi:Option Int):List D:=(xs.drop (HT.sIx xs.length 0 lo)).take (HT.sIx xs.length xs.length hi - HT.sIx xs.length 0 lo)
noncomputable def gSlL (a:DS->Option D) (lo hi:DS->Option (Option Int)):DS->Option (List D):=fun δ=>(a δ).bind fun x=>(lo δ).bind fun l=>(hi δ).bind fun h=>match x with
 | .list ds=>some (cutD ds l h)
 | _=>none
section
variable {X:Cx} {O:List Nat} {e:Expr} {lo hi:Option Expr} {ga:DS->Option D} {gl gh:DS->Option (Option Int)} {pos p2:Pos}
theorem zfM (h:PE X e (tSh X.K O ga)):PO X (some e) (tOs X.K O (gPart ga)):=(zk3 h).mono fun σ H Q hh=>hh.e fun U A0 δ d R ed q=>by
 obtain ⟨x,e1,e2⟩:=bind1 ed
 cases x with
 | int i=>cases e2; exact ⟨U,A0,δ,_,R,e1,fun v H' s h=>⟨i,h.int,q H' s⟩⟩
 | _=>cases e2
theorem zmG (ha:PE X e (tSh X.K O ga)) (hl:PO X lo (tOs X.K O gl)) (hh:PO X hi (tOs X.K O gh)):PE X (.Subscript e (.Slice lo hi none p2) pos) (tN X.K O (gSlL ga gl gh)):=(zjv zkc ha hl hh).mono fun σ H Q hh=>hh.e fun U A0 δ d R ed q=>by
 obtain ⟨x,e1,e2⟩:=bind1 ed
 obtain ⟨l,e3,e4⟩:=bind1 e2
 obtain ⟨h,e5,e6⟩:=bind1 e4
 cases x with
 | list ds=>
   cases e6
   refine ⟨U,A0,δ,_,R,e1,fun v H1 s1 h1=>⟨U,A0,δ,l,R.same s1,e3,fun H2 s2=>⟨U,A0,δ,h,R.same (s1.trans s2),e5,fun H3 s3=>?_⟩⟩⟩
   obtain ⟨p,xs,rfl,r1,r2⟩:=(h1.same (s2.trans s3)).list
   refine ⟨p,xs,rfl,r1.sq,fun r hr=>zg2 ((s1.trans s2).trans s3) q r _ hr ?_⟩
   unfold cutV cutD
   rw [r2.len]
   exact (r2.dropD _).takeD _
 | _=>cases e6
end
noncomputable def gSeq (a b:DS->Option Res):DS->Option Res:=fun δ=>(a δ).bind fun | .nx δ'=>b δ' | r=>some r
noncomputable def gSkip:DS->Option Res:=fun δ=>some (.nx δ)
noncomputable def gIf (c:DS->Option Bool) (a b:DS->Option Res):DS->Option Res:=fun δ=>(c δ).bind fun x=>if x=true then a δ else b δ
noncomputable def gSet (i:Nat) (g:DS->Option D):DS->Option Res:=fun δ=>(g δ).bind fun d=>some (.nx (δ.set i (some d)))
noncomputable def gSetN (i:Nat) (g:DS->Option (List D)):DS->Option Res:=fun δ=>(g δ).bind fun d=>some (.nx (δ.set i (some (.list d))))
noncomputable def gRet (g:DS->Option D):DS->Option Res:=fun δ=>(g δ).bind fun d=>some (.rt d)
section
variable {X:Cx} {O:List Nat} {fr:Fr} {xk:Str->Hp->Prop} {st:Stmt} {rest a b:List Stmt} {ga gb:DS->Option Res} {gc:DS->Option Bool} {ge:DS->Option D} {gl:DS->Option (List D)} {e c:Expr} {pos:Pos}
theorem zg (h1:PS X st (tS X.K O fr ga)) (h2:PSs X rest (tS X.K O fr gb)):PSs X (st :: rest) (tS X.K O fr (gSeq ga gb)):=(zjI h1 h2).mono fun E σ H hh=>hh.e fun H0 U A0 δ r R F ed P=>by
 obtain ⟨r1,e1,e2⟩:=bind1 ed
 cases r1 with
 | nx δ'=>exact ⟨H0,U,A0,δ,.nx δ',R,F,e1,fun U' σ' H' R' F'=>⟨H0,U',A0,δ',r,R',F',e2,P⟩⟩
 | rt d=>cases e2; exact ⟨H0,U,A0,δ,_,R,F,e1,P⟩
 | bk d=>cases e2; exact ⟨H0,U,A0,δ,_,R,F,e1,P⟩
 | ct d=>cases e2; exact ⟨H0,U,A0,δ,_,R,F,e1,P⟩
theorem zl (h1:PS X st (tS X.K O fr ga)):PSs X [st] (tS X.K O fr ga):=zkp h1
theorem za7:PSs X [] (tS X.K O fr gSkip):=zkO.mono fun E σ H hh=>hh.e fun H0 U A0 δ r R F ed P=>by cases ed; exact P U σ H R F
theorem zhB:PSs X rest (tS X.K O fr fun _=>none):=zhS.mono fun E σ H hh=>hh.e fun H0 U A0 δ r R F ed P=>by cases ed
theorem zbE (hc:PT X c (tT X.K O gc)) (ha:PSs X a (tS X.K O fr ga)) (hb:PSs X b (tS X.K O fr gb)):PS X (.If c a b pos) (tS X.K O fr (gIf gc ga gb)):=(zmV hc ha hb).mono fun E σ H hh=>hh.e fun H0 U A0 δ r R F ed P=>by
 obtain ⟨x,e1,e2⟩:=bind1 ed
 refine ⟨U,A0,δ,x,R,e1,fun H' s=>?_⟩
 cases x with
 | true=>rw [if_pos rfl] at e2 ⊢; exact ⟨H0,U,A0,δ,r,R.same s,F.grow s,e2,P⟩
 | false=>rw [if_neg Bool.false_ne_true] at e2 ⊢; exact ⟨H0,U,A0,δ,r,R.same s,F.grow s,e2,P⟩
theorem zF {i:Nat} (h:PS X st (tAsg (tE X.K O ge) (gName i))) (hi:i∉O:=by decide):PS X st (tS X.K O fr (gSet i ge)):=h.mono fun E σ H hh=>hh.e fun H0 U A0 δ r R F ed P=>by
 obtain ⟨d,e1,e2⟩:=bind1 ed
 cases e2
 exact ⟨U,A0,δ,d,R,e1,fun v H' s hv=>P U _ H' ((R.same s).set hi hv) (F.grow s)⟩
theorem za8 {i:Nat} (h:PS X st (tAsg (tN X.K O gl) (gName i))) (hi:i∈O:=by decide):PS X st (tS X.K O fr (gSetN i gl)):=h.mono fun E σ H hh=>hh.e fun H0 U A0 δ r R F ed P=>by
 obtain ⟨d,e1,e2⟩:=bind1 ed
 cases e2
 exact ⟨U,A0,δ,d,R,e1,fun r ys H' s hr h1 h2=>P (r :: U) _ H' (R.setN s hr h1 h2 hi) (F.more s hr)⟩
theorem za1 (h:PE X e (tE X.K O ge)):PS X (.Return (some e) pos) (tS X.K O (false,xk) (gRet ge)):=(zhi h).mono fun E σ H hh=>hh.e fun H0 U A0 δ r R F ed P=>by
 obtain ⟨d,e1,e2⟩:=bind1 ed
 cases e2
 refine ⟨U,A0,δ,d,R,e1,fun v H' s hv=>P.1 v H' ?_⟩
 unfold RetR
 rw [if_neg Bool.false_ne_true]
 exact ⟨F.same.trans s,hv.same (zcJ fun a ha=>List.mem_append_right _ ha)⟩
theorem zcw (h:PE X e (tN X.K O gl)):PS X (.Return (some e) pos) (tS X.K O (true,xk) (gRet (gLst gl))):=(zhi h).mono fun E σ H hh=>hh.e fun H0 U A0 δ r R F ed P=>by
 obtain ⟨d,e1,e2⟩:=bind1 ed
 cases e2
 unfold gLst at e1
 cases eg:gl δ with
 | none=>rw [eg] at e1; cases e1
 | some l=>
   rw [eg] at e1; cases e1
   refine ⟨U,A0,δ,l,R,eg,fun r ys H' s hr h1 h2=>P.1 (.ref r) H' ?_⟩
   unfold RetR
   rw [if_pos rfl]
   refine ⟨r,_,rfl,F.same.trans s,F.same.free hr,h1,.lst (h2.same (zcJ fun a ha=>?_))⟩
   rcases List.mem_cons.mp ha with z | z
   ·subst z; simp
   ·exact List.mem_cons_of_mem _ (List.mem_append_right _ z)
theorem z8 {i:Nat} (h:PE X e (tVar i)) (hi:i∈O:=by decide):PS X (.Return (some e) pos) (tS X.K O fr (gRet (gVar i))):=(zhi h).mono fun E σ H hh=>hh.e fun H0 U A0 δ r R F ed P=>by
 obtain ⟨d,e1,e2⟩:=bind1 ed
 cases e2
 obtain ⟨l,o,hl,hU,h1,h2⟩:=R.ow i d hi (zB e1)
 refine ⟨.ref l,hl,P.1 (.ref l) H ?_⟩
 unfold RetR
 split
 ·refine ⟨l,o,rfl,F.same,F.new l hU,h1,h2.same (zcJ fun a ha=>?_)⟩
  rcases List.mem_cons.mp ha with z | z
  ·subst z; exact List.mem_append_left _ hU
  ·exact List.mem_append_right _ z
 ·refine ⟨F.same,(h2.same (zcJ fun a ha=>List.mem_append_right _ ha)).hd ?_⟩
  rw [zL (F.out hU)]; exact h1
noncomputable def gApp (i:Nat) (g:DS->Option D):DS->Option Res:=fun δ=>(gVar i δ).bind fun x=>(g δ).bind fun d=>match x with
 | .list ds=>if ds.length < 100000 then some (.nx (δ.set i (some (.list (ds ++ [d]))))) else none
 | _=>none
set_option tactic.hygienic true in
theorem zbe {i:Nat} (h:PS X st (tDrop (tBM X.K "list" rAppend (tVar i) (tCons (tE X.K O ge) tNil)))) (hi:i∈O:=by decide):PS X st (tS X.K O fr (gApp i ge)):=h.mono fun E σ H hh=>hh.e fun H0 U A0 δ r R F ed P=>by
 obtain ⟨x,e1,e2⟩:=bind1 ed
 obtain ⟨d,e3,e4⟩:=bind1 e2
 rcases R.owL i x hi (zB e1) with ⟨l,ys,ds,hl,rfl,hU,h1,h2⟩ | ⟨kds,rfl⟩
 rotate_left
 ·(exfalso; simp_all; done)
 simp only at e4
 split at e4
 ·rename_i hz
  cases e4
  refine ⟨.ref l,hl,.inl ⟨rfl,ys,SqL.of h1⟩,U,A0,δ,d,R,e3,fun v H' s hv=>?_⟩
  have h1':=s _ _ h1
  have h2':=h2.same (zac (A:=U ++ A0) s)
  have hlen:=h2.len
  refine ⟨l,ys,v,rfl,rfl,h1',small' (by omega),?_⟩
  exact P U σ _ ((R.same s).put hi hl hU (h2'.app (.cons hv .nil)) ⟨_,zB e1⟩) ((F.grow s).put hU _)
 ·cases e4
end
noncomputable def whN (c:DS->Option Bool) (b:DS->Option Res):Nat->DS->Option Res
 | 0,_=>none
 | n + 1,δ=>(c δ).bind fun x=>if x=true then (b δ).bind (fun | .nx δ'=>whN c b n δ' | .ct δ'=>whN c b n δ' | .bk δ'=>some (.nx δ') | .rt d=>some (.rt d)) else some (.nx δ)
theorem zgZ {c:DS->Option Bool} {b:DS->Option Res}:∀ {n:Nat} {δ:DS} {r:Res},whN c b n δ=some r->whN c b (n + 1) δ=some r
 | 0,_,_,h=>by cases h
 | n + 1,δ,r,h=>by
   rw [whN] at h ⊢
   obtain ⟨x,e1,e2⟩:=bind1 h
   rw [e1,Option.bind_some]
   cases x with
   | false=>exact e2
   | true=>
     rw [if_pos rfl] at e2 ⊢
     obtain ⟨q,e3,e4⟩:=bind1 e2
     rw [e3,Option.bind_some]
     cases q with
     | nx δ'=>exact zgZ e4
     | ct δ'=>exact zgZ e4
     | bk _=>exact e4
     | rt _=>exact e4
theorem zjP {c:DS->Option Bool} {b:DS->Option Res} {n m:Nat} {δ:DS} {r:Res} (h:whN c b n δ=some r) (hm:n<=m):whN c b m δ=some r:=by
 induction hm with
 | refl=>exact h
 | step _ ih=>exact zgZ ih
open Classical in
noncomputable def gWhile (c:DS->Option Bool) (b:DS->Option Res):DS->Option Res:=fun δ=>if h:∃ p:Nat×Res,whN c b p.1 δ=some p.2 then some (choose h).2 else none
set_option tactic.hygienic true in
theorem zeI {c:DS->Option Bool} {b:DS->Option Res} {δ:DS} {r:Res} (h:gWhile c b δ=some r):∃ n,whN c b n δ=some r:=by
 unfold gWhile at h
 split at h
 ·rename_i hp
  cases h
  exact ⟨_,Classical.choose_spec hp⟩
 ·cases h
theorem zhy {c:DS->Option Bool} {b:DS->Option Res} {n:Nat} {δ:DS} {r:Res} (h:whN c b n δ=some r):gWhile c b δ=some r:=by
 have hp:∃ p:Nat×Res,whN c b p.1 δ=some p.2:=⟨(n,r),h⟩
 unfold gWhile
 rw [dif_pos hp]
 have h2:=Classical.choose_spec hp
 have a1:=zjP h (Nat.le_max_left n (Classical.choose hp).1)
 have a2:=zjP h2 (Nat.le_max_right n (Classical.choose hp).1)
 rw [a1] at a2
 exact a2.symm
theorem zhH {c:DS->Option Bool} {b:DS->Option Res} (W:Nat->DS->Prop) (r:DS->Res->Prop) (m:Nat) (δ:DS) (h:W m δ)
  (hs:∀ m δ,W m δ->(c δ=some false /\ r δ (.nx δ)) \/ (c δ=some true /\ ((∃ δ' m',(b δ=some (.nx δ') \/ b δ=some (.ct δ')) /\ m' < m /\ W m' δ' /\ ∀ q,r δ' q->r δ q) \/ (∃ δ',b δ=some (.bk δ') /\ r δ (.nx δ')) \/ ∃ d,b δ=some (.rt d) /\ r δ (.rt d)))):
  ∃ q,gWhile c b δ=some q /\ r δ q:=by
 suffices hh:∀ k m δ,m < k->W m δ->∃ n q,whN c b n δ=some q /\ r δ q by
  obtain ⟨n,q,e,hq⟩:=hh (m + 1) m δ (Nat.lt_succ_self m) h
  exact ⟨q,zhy e,hq⟩
 intro k
 induction k with
 | zero=>intro m δ hm; omega
 | succ k ih=>
   intro m δ hm hW
   rcases hs m δ hW with ⟨hc,hr⟩ | ⟨hc,⟨δ',m',hb,hlt,hW',imp⟩ | ⟨δ',hb,hr⟩ | ⟨d,hb,hr⟩⟩
   ·exact ⟨1,_,by rw [whN,hc]; rfl,hr⟩
   ·obtain ⟨n,q,e,hq⟩:=ih m' δ' (by omega) hW'
    refine ⟨n + 1,q,?_,imp q hq⟩
    rw [whN,hc,Option.bind_some,if_pos rfl]
    rcases hb with hb | hb <;> rw [hb,Option.bind_some] <;> exact e
   ·exact ⟨1,_,by rw [whN,hc,Option.bind_some,if_pos rfl,hb]; rfl,hr⟩
   ·exact ⟨1,_,by rw [whN,hc,Option.bind_some,if_pos rfl,hb]; rfl,hr⟩
section
variable {X:Cx} {O:List Nat} {fr:Fr} {body:List Stmt} {gb:DS->Option Res} {gc:DS->Option Bool} {c:Expr} {pos:Pos}
theorem zfW (hp:PassesOwn (model X.prog X.w) X.A X.env X.xe) (hc:PT X c (tT X.K O gc)) (hb:PSs X body (tS X.K O fr gb)):PS X (.While c body [] pos) (tS X.K O fr (gWhile gc gb)):=(zi4 hp hc hb).mono fun E σ H hh=>hh.e fun H0 U A0 δ r R F ed P=>by
 obtain ⟨n,en⟩:=zeI ed
 refine ⟨fun m σ H=>∃ U δ,Rel X.K O U A0 σ δ H /\ Fx H0 A0 U H /\ whN gc gb m δ=some r,⟨n,U,δ,R,F,en⟩,?_⟩
 rintro m σ H ⟨U,δ,R,F,em⟩
 cases m with
 | zero=>cases em
 | succ m=>
   rw [whN] at em
   obtain ⟨x,e1,e2⟩:=bind1 em
   refine ⟨U,A0,δ,x,R,e1,fun H' s=>?_⟩
   cases x with
   | false=>rw [if_neg Bool.false_ne_true] at e2 ⊢; cases e2; exact P U σ H' (R.same s) (F.grow s)
   | true=>
     rw [if_pos rfl] at e2 ⊢
     obtain ⟨q,e3,e4⟩:=bind1 e2
     refine ⟨fun σ' H'=>∃ m',m' < m + 1 /\ ∃ U δ,Rel X.K O U A0 σ' δ H' /\ Fx H0 A0 U H' /\ whN gc gb m' δ=some r,fun _ _ h=>h,H0,U,A0,δ,q,R.same s,F.grow s,e3,?_⟩
     cases q with
     | nx δ'=>exact fun U' σ' H' R' F'=>⟨m,Nat.lt_succ_self m,U',δ',R',F',e4⟩
     | ct δ'=>exact fun U' σ' H' R' F'=>⟨m,Nat.lt_succ_self m,U',δ',R',F',e4⟩
     | bk δ'=>cases e4; exact P
     | rt d=>cases e4; exact P
end
noncomputable def gName' (i:Nat):D->DS->Option DS:=fun d δ=>some (δ.set i (some d))
noncomputable def gTupT (n:Nat) (g:List D->DS->Option DS):D->DS->Option DS:=fun d δ=>match d with
 | .tuple ds=>if ds.length=n then g ds δ else none
 | _=>none
noncomputable def gNilT:List D->DS->Option DS:=fun ds δ=>if ds=[] then some δ else none
noncomputable def gConsT (t:D->DS->Option DS) (u:List D->DS->Option DS):List D->DS->Option DS:=fun ds δ=>match ds with
 | d :: r=>(t d δ).bind fun δ'=>u r δ'
 | []=>none
noncomputable def tGs (K:PySem.W.Frag) (O:List Nat) (g:List D->DS->Option DS):TGs:=fun vs σ H Q=>∃ U A0 δ ds δ',Rel K O U A0 σ δ H /\ HDs K (wo H (U ++ A0)) vs ds /\ g ds δ=some δ' /\ ∀ σ',Rel K O U A0 σ' δ' H->Q σ' H
theorem tGs.e {K:PySem.W.Frag} {O:List Nat} {g:List D->DS->Option DS}  {vs:_} {σ:_} {H:_} {Q:_} {GG:Prop} (hh:tGs K O g vs σ H Q) (kk:∀ U A0 δ ds δ',(Rel K O U A0 σ δ H)->(HDs K (wo H (U ++ A0)) vs ds)->(g ds δ=some δ')->(∀ σ',Rel K O U A0 σ' δ' H->Q σ' H)->GG):GG:=by obtain ⟨U,A0,δ,ds,δ',x0,x1,x2,x3⟩:=hh; exact kk U A0 δ ds δ' x0 x1 x2 x3
section
variable {X:Cx} {O:List Nat} {e:Expr} {es:List Expr} {pos:Pos}
theorem PGs.mono {t t':TGs} (h:PGs X es t) (m:∀ v σ H Q,t' v σ H Q->t v σ H Q):PGs X es t':=fun pins s σ H v u Q I r q=>h pins s σ H v u Q I r (m v σ H Q q)
theorem zm {i:Nat} (h:PG X e (gName i)) (hi:i∉O:=by decide):PG X e (tG X.K O (gName' i)):=h.mono fun v σ H Q hh=>hh.e fun U A0 δ d δ' R hd e1 q=>by
 cases e1
 exact q _ (R.set hi hd)
set_option tactic.hygienic true in
theorem zcL:PGs X [] (tGs X.K O gNilT):=zkJ.mono fun vs σ H Q hh=>hh.e fun U A0 δ ds δ' R hd e1 q=>by
 unfold gNilT at e1
 split at e1
 ·rename_i hz
  cases e1
  subst hz
  cases hd
  exact ⟨rfl,q σ R⟩
 ·cases e1
theorem zaC {t:D->DS->Option DS} {u:List D->DS->Option DS} (h1:PG X e (tG X.K O t)) (h2:PGs X es (tGs X.K O u)) (hs:(assignEach (e :: es) X.env).map (·.2)=assign e X.env :: (assignEach es X.env).map (·.2):=by rfl):PGs X (e :: es) (tGs X.K O (gConsT t u)):=
 (zi8 h1 h2 hs).mono fun vs σ H Q hh=>hh.e fun U A0 δ ds δ' R hd e1 q=>by
  cases hd with
  | nil=>cases e1
  | cons hx hr=>
    obtain ⟨δ1,e2,e3⟩:=bind1 e1
    exact ⟨_,_,rfl,U,A0,δ,_,δ1,R,hx,e2,fun σ1 R1=>⟨U,A0,δ1,_,δ',R1,hr,e3,q⟩⟩
set_option tactic.hygienic true in
theorem zcE {n k:Nat} {t:List D->DS->Option DS} (hc:X.calm=true) (h:PGs X es (tGs X.K O t)) (hn:(assignEach es X.env).length=n:=by rfl) (hst:(assignEach es X.env).findIdx? (·.1)=none:=by rfl):PG X (.Tuple es k pos) (tG X.K O (gTupT n t)):=
 (zlD hc h hn hst).mono fun v σ H Q hh=>hh.e fun U A0 δ d δ' R hd e1 q=>by
  unfold gTupT at e1
  split at e1
  ·split at e1
   ·rename_i hz
    obtain ⟨a,xs,rfl,h1,h2⟩:=(ShD.of hd).tuple
    exact ⟨a,xs,rfl,h1,by rw [h2.len]; exact hz,U,A0,δ,_,δ',R,h2,e1,q⟩
   ·cases e1
  ·cases e1
end
noncomputable def forD (t:D->DS->Option DS) (b:DS->Option Res):List D->DS->Option Res
 | [],δ=>some (.nx δ)
 | d :: ds,δ=>(t d δ).bind fun δ1=>(b δ1).bind fun | .nx δ'=>forD t b ds δ' | .ct δ'=>forD t b ds δ' | .bk δ'=>some (.nx δ') | .rt d=>some (.rt d)
noncomputable def gFor (gi:DS->Option (List D)) (t:D->DS->Option DS) (b:DS->Option Res):DS->Option Res:=fun δ=>(gi δ).bind fun ds=>forD t b ds δ
theorem Fx.overW {H0 H H':Hp} {A0 U:List Addr} (F:Fx H0 A0 U H) (s:Same (wo H U) H'):Same H0 H':=fun a o e=>s a o (by
 rw [zL fun z=>?_]
 ·exact F.same _ _ e
 ·rw [F.new a z] at e; cases e)
set_option tactic.hygienic true in
theorem RetR.trans {K:PySem.W.Frag} {fr:Bool} {H0 H H':Hp} {A0 U:List Addr} {v:V} {d:D} (F:Fx H0 A0 U H) (h:RetR K fr (wo H U) A0 v d H'):RetR K fr H0 A0 v d H':=by
 have k:∀ a o,H0 a=some o->wo H U a=some o:=fun a o e=>by
  rw [zL fun z=>?_]
  ·exact F.same _ _ e
  ·rw [F.new a z] at e; cases e
 unfold RetR at h ⊢
 split
 ·rename_i hf
  rw [if_pos hf] at h
  obtain ⟨r,ob,a,c,e,f,g⟩:=h
  refine ⟨r,ob,a,fun x o q=>c _ _ (k x o q),?_,f,g⟩
  cases q:H0 r with
  | none=>rfl
  | some o=>rw [k r o q] at e; cases e
 ·rename_i hf
  rw [if_neg hf] at h
  exact ⟨fun x o q=>h.1 _ _ (k x o q),h.2⟩
section
variable {X:Cx} {O:List Nat} {fr:Fr} {body:List Stmt} {gb:DS->Option Res} {gi:DS->Option (List D)} {tg iter:Expr} {gt:D->DS->Option DS} {pos:Pos}
theorem zbu (hp:PassesOwn (model X.prog X.w) X.A X.env X.xe) (hc:X.calm=true) (hi:PI X tg iter (tI X.K O gi)) (hg:PG X tg (tG X.K O gt)) (hb:PSs X body (tS X.K O fr gb))
  (hs:∀ x,foldedSetIterable iter X.env x=pure x:=by intro _; rfl):PS X (.For tg iter body [] pos) (tS X.K O fr (gFor gi gt gb)):=(zmy hp hc hi hg hb hs).mono fun E σ H hh=>hh.e fun H0 U A0 δ r R F ed P=>by
 obtain ⟨ds,e1,e2⟩:=bind1 ed
 refine ⟨U,A0,δ,ds,R,e1,fun J H1 s hw=>?_⟩
 have F1:=F.grow s
 refine ⟨fun i m σ H=>m=ds.length - i /\ i<=ds.length /\ ∃ U2 δ,Rel X.K O U2 A0 σ δ H /\ Fx H0 A0 U2 H /\ Fx (wo H1 U) A0 U2 H /\ forD gt gb (ds.drop i) δ=some r,⟨ds.length,by simp,Nat.zero_le _,U,δ,R.same s,F1,F1.here,by simpa using e2⟩,?_⟩
 rintro i m σ H ⟨rfl,hle,U2,δ,R2,F2,G2,ef⟩
 obtain ⟨hgo,hstop⟩:=hw (U2 ++ A0) i H G2.keeps R2.al
 by_cases hlt:i < ds.length
 ·obtain ⟨d,hd⟩:∃ d,ds[i]?=some d:=⟨_,List.getElem?_eq_getElem hlt⟩
  have hdrop:ds.drop i=d :: ds.drop (i + 1):=by
   rw [List.drop_eq_getElem_cons hlt]
   rw [List.getElem?_eq_getElem hlt] at hd
   cases hd; rfl
  obtain ⟨go,hy⟩:=hgo d hd
  rw [hdrop,forD] at ef
  obtain ⟨δ1,e3,e4⟩:=bind1 ef
  obtain ⟨q,e5,e6⟩:=bind1 e4
  refine .inr ⟨go,fun σ' H'=>∃ m',m' < ds.length - i /\ (m'=ds.length - (i + 1) /\ i + 1<=ds.length /\ ∃ U2 δ,Rel X.K O U2 A0 σ' δ H' /\ Fx H0 A0 U2 H' /\ Fx (wo H1 U) A0 U2 H' /\ forD gt gb (ds.drop (i + 1)) δ=some r),fun _ _ h=>h,fun x H2 y=>?_⟩
  obtain ⟨s2,hx⟩:=hy x H2 y
  refine ⟨U2,A0,δ,d,δ1,R2.same s2,hx,e3,fun σ' R'=>?_⟩
  have F3:=F2.grow s2
  have G3:=G2.grow s2
  refine ⟨wo H2 U2,U2,A0,δ1,q,R',F3.here,e5,?_⟩
  cases q with
  | nx δ'=>exact fun U' σ' H' R' F'=>⟨_,by omega,rfl,hlt,U',δ',R',F3.trans F',G3.trans F',e6⟩
  | ct δ'=>exact fun U' σ' H' R' F'=>⟨_,by omega,rfl,hlt,U',δ',R',F3.trans F',G3.trans F',e6⟩
  | bk δ'=>cases e6; exact fun U' σ' H' R' F'=>P U' σ' H' R' (F3.trans F')
  | rt d=>cases e6; exact ⟨fun v H' h=>P.1 v H' (h.trans F3),fun c H' e s=>P.2 c H' e (F3.overW s)⟩
 ·have hi:i=ds.length:=by omega
  subst hi
  rw [List.drop_length,forD] at ef
  cases ef
  exact .inl ⟨hstop rfl,P U2 σ H R2 F2⟩
end
noncomputable def rangeD (lo:Int) (n:Nat):List D:=(List.range n).map fun k:Nat=>PyData.int (lo + k)
theorem zc8 {lo:Int} {n i:Nat} {d:D} (h:(rangeD lo n)[i]?=some d):i < n /\ d=.int (lo + i):=by
 unfold rangeD at h
 rw [List.getElem?_map] at h
 cases e:(List.range n)[i]? with
 | none=>rw [e] at h; cases h
 | some k=>
   rw [e] at h; cases h
   have hi:=(List.getElem?_eq_some_iff.mp e).1
   rw [List.length_range] at hi
   rw [List.getElem?_range hi] at e
   cases e
   exact ⟨hi,rfl⟩
theorem zdb {lo:Int} {n:Nat}:(rangeD lo n).length=n:=by unfold rangeD; simp
theorem zcP {K:PySem.W.Frag} {A:List Addr} {H1:Hp} {lo:Int} {n:Nat}:Walks K A H1 (Itr lo n) (rangeD lo n):=by
 intro A' i H _ _
 refine ⟨fun d hd=>?_,fun hi=>?_⟩
 ·obtain ⟨hi,rfl⟩:=zc8 hd
  refine ⟨hi,fun x H2 y=>?_⟩
  obtain ⟨rfl,rfl⟩:=y
  exact ⟨Same.refl _,.int _⟩
 ·rw [zdb] at hi
  subst hi
  exact Nat.le_refl _
noncomputable def gRange1 (g:DS->Option (List D)):DS->Option (List D):=fun δ=>(g δ).bind fun | [.int j]=>if -(2 ^ 62)<=j /\ j < 2 ^ 62 then some (rangeD 0 j.toNat) else none | _=>none
noncomputable def gRange2 (g:DS->Option (List D)):DS->Option (List D):=fun δ=>(g δ).bind fun | [.int i,.int j]=>if -(2 ^ 62)<=i /\ i < 2 ^ 62 /\ -(2 ^ 62)<=j /\ j < 2 ^ 62 then some (rangeD i (j - i).toNat) else none | _=>none
noncomputable def gItems (g:DS->Option D):DS->Option (List D):=fun δ=>(g δ).bind fun | .list l=>some l | .tuple l=>some l | _=>none
section
variable {X:Cx} {O:List Nat} {tg a b e:Expr} {gr:DS->Option (List D)} {ge:DS->Option D} {pos p:Pos}
set_option tactic.hygienic true in
theorem zct (hm:X.mg "range"=none) (ha:PA X [a] (tAs X.K O gr)) (hg:Gl X "range":=by rfl) (hs:starEach [a] X.env=[(false,eval a X.env)]:=by rfl):PI X tg (.Call (.Name "range" p) [a] [] pos) (tI X.K O (gRange1 gr)):=(ziu hg hm ha hs).mono fun σ H Q hh=>hh.e fun U A0 δ ds R ed q=>by
 obtain ⟨x,e1,e2⟩:=bind1 ed
 refine ⟨U,A0,δ,x,R,e1,fun vs H' s h=>?_⟩
 split at e2
 ·split at e2
  ·rename_i hz
   cases e2
   cases h with
   | cons h1 h2=>
     cases h2
     cases h1
     exact ⟨_,rfl,hz.1,hz.2,q _ H' s zcP⟩
  ·cases e2
 ·cases e2
set_option tactic.hygienic true in
theorem zhr (hm:X.mg "range"=none) (ha:PA X [a,b] (tAs X.K O gr)) (hg:Gl X "range":=by rfl) (hs:starEach [a,b] X.env=[(false,eval a X.env),(false,eval b X.env)]:=by rfl) (hs2:starEach [b] X.env=[(false,eval b X.env)]:=by rfl):PI X tg (.Call (.Name "range" p) [a,b] [] pos) (tI X.K O (gRange2 gr)):=(zh7 hg hm ha hs hs2).mono fun σ H Q hh=>hh.e fun U A0 δ ds R ed q=>by
 obtain ⟨x,e1,e2⟩:=bind1 ed
 refine ⟨U,A0,δ,x,R,e1,fun vs H' s h=>?_⟩
 split at e2
 ·split at e2
  ·rename_i hz
   cases e2
   cases h with
   | cons h1 h2=>cases h2 with
     | cons h2 h3=>
       cases h3
       cases h1
       cases h2
       exact ⟨_,_,rfl,hz,q _ H' s zcP⟩
  ·cases e2
 ·cases e2
noncomputable def iSeq (K:PySem.W.Frag) (tl:TE):TI:=fun σ H R=>tl σ H fun x H1=>(∃ a,x=.ref a /\ (∃ xs,SqL K H1 a xs) /\ R (Itl K a) H1) \/ ∃ a,x=.ref a /\ (∃ xs,SqT K H1 a xs) /\ R (Itt K a) H1
theorem zjO {l:Expr} {tl:TE} (hl:PE X l tl):PI X tg l (iSeq X.K tl):=by
 intro pins s σ H R I h
 refine thn (hl pins s σ H _ I h) fun v s1 ⟨x,H1,I1,r1,q1⟩=>?_
 rcases q1 with ⟨a,e,⟨xs,hq⟩,q⟩ | ⟨a,e,⟨xs,hq⟩,q⟩
 ·subst e
  cases r1
  obtain ⟨its,rv,p,hz⟩:=I1.list hq
  refine wpAny_pyIter_list p.isList ?_
  refine ⟨s1.heap.objs.size,[s1.heap.objs.size],_,_,H1,rfl,I1.kept (t':=s1.toks) fun b o e=>Heap.get?_push_of_some _ e,zhl a _,⟨_,Heap.get?_push_size _ rfl,rfl,rfl⟩,fun b hb=>?_,q⟩
  have e:b=s1.heap.objs.size:=by simpa using hb
  subst e
  exact I1.fpOk (Nat.le_refl _) (I1.hok.fresh (Nat.le_refl _))
 ·subst e
  cases r1
  obtain ⟨its,rv,p,hz⟩:=I1.tuple hq
  refine wpAny_pyIter_tuple (show s1.heap.IsTuple a its.toArray from p) ?_
  refine ⟨s1.heap.objs.size,[s1.heap.objs.size],_,_,H1,rfl,I1.kept (t':=s1.toks) fun b o e=>Heap.get?_push_of_some _ e,zf4 a _,⟨_,Heap.get?_push_size _ rfl,rfl,rfl⟩,fun b hb=>?_,q⟩
  have e:b=s1.heap.objs.size:=by simpa using hb
  subst e
  exact I1.fpOk (Nat.le_refl _) (I1.hok.fresh (Nat.le_refl _))
theorem zan (h:PE X e (tE X.K O ge)):PI X tg e (tI X.K O (gItems ge)):=(zjO h).mono fun σ H Q hh=>hh.e fun U A0 δ ds R ed q=>by
 obtain ⟨x,e1,e2⟩:=bind1 ed
 cases x with
 | list l=>
   cases e2
   refine ⟨U,A0,δ,_,R,e1,fun v H' s h=>?_⟩
   cases h with
   | lst hq h=>
     refine .inl ⟨_,rfl,⟨_,(hq.same zZ).sq⟩,q _ H' s ?_⟩
     intro A' i H2 s2 _
     have hq2:=hq.same s2
     have h2:=h.same s2
     have hL:SqL X.K H2 _ _:=(hq2.same zZ).sq
     refine ⟨fun d hd=>?_,fun hi=>⟨_,hL,by rw [h2.len]; omega⟩⟩
     obtain ⟨x,hx,hxd⟩:=h2.get hd
     refine ⟨⟨_,x,hL,hx⟩,fun y H3 hy=>?_⟩
     obtain ⟨rfl,hy⟩:=hy
     have:=hy _ hL
     rw [hx] at this
     cases this
     exact ⟨Same.refl _,hxd⟩
 | tuple l=>
   cases e2
   refine ⟨U,A0,δ,_,R,e1,fun v H' s h=>?_⟩
   cases h with
   | tup hq h=>
     refine .inr ⟨_,rfl,⟨_,(.inl (zZ.tupT hq))⟩,q _ H' s ?_⟩
     intro A' i H2 s2 _
     have hq2:=s2.tupT hq
     have h2:=h.same s2
     have hL:SqT X.K H2 _ _:=.inl (zZ.tupT hq2)
     refine ⟨fun d hd=>?_,fun hi=>⟨_,hL,by rw [h2.len]; omega⟩⟩
     obtain ⟨x,hx,hxd⟩:=h2.get hd
     refine ⟨⟨_,x,hL,hx⟩,fun y H3 hy=>?_⟩
     obtain ⟨rfl,hy⟩:=hy
     have:=hy _ hL
     rw [hx] at this
     cases this
     exact ⟨Same.refl _,hxd⟩
 | _=>cases e2
end
noncomputable def captD (ix:List Nat) (δ:DS):DS:=ix.map fun j=>(δ[j]?).join
noncomputable def mapD (f:D->Option D):List D->Option (List D)
 | []=>some []
 | d :: ds=>(f d).bind fun x=>(mapD f ds).bind fun xs=>some (x :: xs)
noncomputable def gComp (gi:DS->Option (List D)) (ix:List Nat) (ge:DS->Option D):DS->Option (List D):=fun δ=>(gi δ).bind fun ds=>if ds.length<=100000 then mapD (fun d=>ge (some d :: captD ix δ)) ds else none
section
variable {X:Cx} {O:List Nat} {fr:Fr} {scope:Scope} {x:Str} {elt iter:Expr} {px pos:Pos} {gi:DS->Option (List D)} {ge:DS->Option D}
theorem PS.nE {st:Stmt} {i:Nat} {g:DS->Option (List D)} (h:PS X st (tAsg (tN X.K O g) (gName i))):PS X st (tAsg (tE X.K O (gLst g)) (gName i)):=h.mono fun _ _ _ h=>zll h
end
noncomputable def gOut:Res->Option D
 | .rt d=>some d
 | .nx _=>some .none
 | _=>none
noncomputable def gOutN:Res->Option (List D)
 | .rt (.list l)=>some l
 | _=>none
noncomputable def gDef (n:Nat) (g:DS->Option Res):List D->Option D:=fun ds=>(g (ds.map some ++ List.replicate (n - ds.length) none)).bind gOut
noncomputable def gDefN (n:Nat) (g:DS->Option Res):List D->Option (List D):=fun ds=>(g (ds.map some ++ List.replicate (n - ds.length) none)).bind gOutN
theorem Rel.start {K:PySem.W.Frag} {O:List Nat} {A:List Addr} {N:List Str} {vs:List V} {ds:List D} {H:Hp} (al:Ls A H) (h:HDs K (wo H A) vs ds) (hO:∀ i∈O,ds.length<=i):Rel K O [] A (start N vs) (ds.map some ++ List.replicate (N.length - ds.length) none) H:=by
 have hl:=h.len
 have none_of:∀ (i:Nat) d,ds.length<=i->(ds.map some ++ List.replicate (N.length - ds.length) none)[i]?=some (some d)->False:=by
  intro i d hi q
  rw [List.getElem?_append_right (by simpa using hi)] at q
  have:=List.mem_of_getElem? q
  rw [List.mem_replicate] at this
  exact absurd this.2 (by simp)
 exact {
  len:=by unfold L2.start; simp [hl]
  fz:=fun i d _ q=>by
   by_cases hi:i < ds.length
   ·rw [List.getElem?_append_left (by simpa using hi),List.getElem?_map,List.getElem?_eq_getElem hi] at q
    simp only [Option.map_some,Option.some.injEq] at q
    obtain ⟨v,e,hv⟩:=h.get (List.getElem?_eq_getElem hi)
    refine ⟨v,?_,?_⟩
    ·unfold L2.start
     rw [List.getElem?_append_left (by rw [List.length_map]; omega),List.getElem?_map,e]; rfl
    ·rw [List.nil_append,<- q]; exact hv
   ·exact (none_of i d (by omega) q).elim
  ow:=fun i d hi q=>(none_of i d (hO i hi) q).elim
  inj:=fun i j d e l hi _ _ q=>(none_of i d (hO i hi) q).elim
  al:=al }
theorem Fx.start {A:List Addr} {H:Hp} (al:Ls A H):Fx H A [] H:=⟨Same.refl H,fun _ h=>by simp at h,al⟩
section
variable {P:Program} {w:World} {K:PySem.W.Frag} {mg:Str->Option Value} {base:Heap} {x:Str} {st:Stmt} {N ps:List Str} {k:Nat}
theorem zcC (O:List Nat) (g:DS->Option Res) (F:Df K mg x st ps) (S:FnScope N ps (defScope st))
  (body:∀ (f:Addr) (cdv:Value) (A:Around) (outer:List Env) (s:Shared) (H:Hp) (E:XK),Room k (A.deeper (envOfC x (defScope st) s.heap.objs.size f cdv))->PSs (cxOf CX0 P w K mg base N x (defScope st) f cdv A outer s H E).nox (defBody st) (tS K O (false,fun _ _=>True) g))
  (hO:∀ i∈O,ps.length<=i:=by decide) {n m:Nat} (hN:N.length=n:=by rfl) (hP:ps.length=m:=by rfl):Dn P w K mg base (k + 1) x ps (spD K m (gDef n g)):=by
 subst hN hP
 refine F.ok S (fun vs H Q E h=>h.1) (fun f cdv A outer s H vs Q E hr h=>⟨_,body f cdv A outer s H E hr,?_⟩)
 obtain ⟨hn,A',ds,d,al,hd,e,q⟩:=h
 obtain ⟨r,e1,e2⟩:=bind1 e
 refine ⟨H,[],A',_,r,Rel.start al hd (fun i hi=>by have:=hO i hi; rw [<- hd.len,hn]; exact this),Fx.start al,e1,?_⟩
 cases r with
 | nx δ=>cases e2; exact fun U σ H' R F'=>q .non H' F'.same .non
 | rt d=>cases e2; exact ⟨fun v H' h=>by unfold RetR at h; rw [if_neg Bool.false_ne_true] at h; exact q v H' h.1 h.2,fun _ _ _ _=>trivial⟩
 | bk _=>cases e2
 | ct _=>cases e2
theorem zmS {f:Addr} {fd:FuncData} (O:List Nat) (g:DS->Option Res) (F:Fun K x x st f fd) (S:FnScope N ps (defScope st))
  (body:∀ (f:Addr) (cdv:Value) (A:Around) (outer:List Env) (s:Shared) (H:Hp) (E:XK),Room k (A.deeper (envOfC x (defScope st) s.heap.objs.size f cdv))->PSs (cxOf CX0 P w K mg base N x (defScope st) f cdv A outer s H E).nox (defBody st) (tS K O (false,fun _ _=>True) g))
  (hO:∀ i∈O,ps.length<=i:=by decide) {n m:Nat} (hN:N.length=n:=by rfl) (hP:ps.length=m:=by rfl):FnOk P w K mg base CX0 (k + 1) f fd ps (spD K m (gDef n g)):=by
 subst hN hP
 refine F.ok S (fun vs H Q E h=>h.1) (fun cdv A outer s H vs Q E hr h=>⟨_,body f cdv A outer s H E hr,?_⟩)
 obtain ⟨hn,A',ds,d,al,hd,e,q⟩:=h
 obtain ⟨r,e1,e2⟩:=bind1 e
 refine ⟨H,[],A',_,r,Rel.start al hd (fun i hi=>by have:=hO i hi; rw [<- hd.len,hn]; exact this),Fx.start al,e1,?_⟩
 cases r with
 | nx δ=>cases e2; exact fun U σ H' R F'=>q .non H' F'.same .non
 | rt d=>cases e2; exact ⟨fun v H' h=>by unfold RetR at h; rw [if_neg Bool.false_ne_true] at h; exact q v H' h.1 h.2,fun _ _ _ _=>trivial⟩
 | bk _=>cases e2
 | ct _=>cases e2
theorem zaY (O:List Nat) (g:DS->Option Res) (F:Df K mg x st ps) (S:FnScope N ps (defScope st))
  (body:∀ (f:Addr) (cdv:Value) (A:Around) (outer:List Env) (s:Shared) (H:Hp) (E:XK),Room k (A.deeper (envOfC x (defScope st) s.heap.objs.size f cdv))->PSs (cxOf CX0 P w K mg base N x (defScope st) f cdv A outer s H E).nox (defBody st) (tS K O (true,fun _ _=>True) g))
  (hO:∀ i∈O,ps.length<=i:=by decide) {n m:Nat} (hN:N.length=n:=by rfl) (hP:ps.length=m:=by rfl):Dn P w K mg base (k + 1) x ps (spN K m (gDefN n g)):=by
 subst hN hP
 refine F.ok S (fun vs H Q E h=>h.1) (fun f cdv A outer s H vs Q E hr h=>⟨_,body f cdv A outer s H E hr,?_⟩)
 obtain ⟨hn,A',ds,d,al,hd,e,q⟩:=h
 obtain ⟨r,e1,e2⟩:=bind1 e
 refine ⟨H,[],A',_,r,Rel.start al hd (fun i hi=>by have:=hO i hi; rw [<- hd.len,hn]; exact this),Fx.start al,e1,?_⟩
 cases r with
 | rt d'=>
   refine ⟨fun v H' h=>?_,fun _ _ _ _=>trivial⟩
   unfold RetR at h
   rw [if_pos rfl] at h
   obtain ⟨r,ob,rfl,a,b,c,f⟩:=h
   cases f with
   | lst f=>cases e2; exact q r _ H' a b c f
   | dct _ _=>cases e2
 | nx δ=>cases e2
 | bk _=>cases e2
 | ct _=>cases e2
end
end L2
namespace L2
open PySem PySem.Spec PyProof.Rows
noncomputable def gChain (f f':D->D->Option D) (a b c:DS->Option D):DS->Option D:=fun δ=>(a δ).bind fun x=>(b δ).bind fun y=>(f x y).bind fun z=>match z with
 | .bool true=>(c δ).bind fun w=>f' y w
 | .bool false=>some (.bool false)
 | _=>none
section
variable {X:Cx} {O:List Nat} {a b c:Expr} {ga gb gc:DS->Option D} {pos:Pos} {r r':R2}
theorem zjb {K:PySem.W.Frag} {f f':D->D->Option D} (imp:Imp2 K r f) (imp':Imp2 K r' f') {σ:St} {H:Hp} {Q:VK}:tE K O (gChain f f' ga gb gc) σ H Q->tChain r r' (tSh K O ga) (tSh K O gb) (tSh K O gc) σ H Q:=fun ⟨U,A0,δ,d,R,ed,q⟩=>by
 obtain ⟨x,e1,ed⟩:=bind1 ed
 obtain ⟨y,e2,ed⟩:=bind1 ed
 obtain ⟨z,e3,ed⟩:=bind1 ed
 refine ⟨U,A0,δ,x,R,e1,fun v1 H1 s1 h1=>⟨U,A0,δ,y,R.same s1,e2,fun v2 H2 s2 h2=>imp _ H2 v1 v2 x y z _ (R.same (s1.trans s2)).al (h1.same s2) h2 e3 fun v3 H3 s3 h3=>?_⟩⟩
 cases z with
 | bool k=>
   cases h3
   refine ⟨k,rfl,?_⟩
   cases k with
   | true=>
     obtain ⟨w,e4,e5⟩:=bind1 ed
     first
      | rw [if_pos rfl]
      | skip
     exact ⟨U,A0,δ,w,R.same ((s1.trans s2).trans s3),e4,fun v4 H4 s4 h4=>imp' _ H4 v2 v4 y w d Q (R.same (((s1.trans s2).trans s3).trans s4)).al (h2.same (s3.trans s4)) h4 e5 fun v H' s h=>q v H' ((((s1.trans s2).trans s3).trans s4).trans s) h⟩
   | false=>
     cases ed
     first
      | rw [if_neg Bool.false_ne_true]
      | skip
     exact q _ H3 ((s1.trans s2).trans s3) (.bl _)
 | _=>cases ed
theorem zjK {op op':CmpOp} {f f':D->D->Option D} (ho:OpR X (compareOp op) r) (imp:Imp2 X.K r f) (ho':OpR X (compareOp op') r') (imp':Imp2 X.K r' f') (ha:PE X a (tSh X.K O ga)) (hb:PE X b (tSh X.K O gb)) (hc:PE X c (tSh X.K O gc)) (hm:lastMarks [op,op'] [b,c]=false:=by with_unfolding_all rfl):PE X (.Compare a [op,op'] [b,c] pos) (tE X.K O (gChain f f' ga gb gc)):=(ziS ho ho' ha hb hc hm).mono fun _ _ _=>zjb imp imp'
end
section
variable {X:Cx} {O:List Nat} {fr:Fr} {st:Stmt} {gr:DS->Option (List D)} {i j:Nat}
end
noncomputable def flatD:D->Bool
 | .none | .bool _ | .int _ | .str _=>true
 | _=>false
noncomputable def dV:D->V
 | .none=>.non
 | .bool b=>.bl b
 | .int i=>.int i
 | .str x=>.str x
 | _=>.non
noncomputable def eqD (a b:D):Bool:=eqV (dV a) (dV b)
noncomputable def dIn:D->D->Option D:=fun x y=>match y with
 | .list l=>if (flatD x && l.all flatD)=true then some (.bool (l.any fun z=>eqD z x)) else none
 | .tuple l=>if (flatD x && l.all flatD)=true then some (.bool (l.any fun z=>eqD z x)) else none
 | _=>none
noncomputable def dNotIn:D->D->Option D:=fun x y=>(dIn x y).bind fun | .bool c=>some (.bool (!c)) | _=>none
theorem ShD.flat {K:PySem.W.Frag} {A:List Addr} {H:Hp} {v:V} {d:D} (h:ShD K A H v d) (f:flatD d=true):v=dV d /\ flatV v=true:=by
 cases d with
 | none=>rw [h.non]; exact ⟨rfl,rfl⟩
 | bool b=>rw [h.bool]; exact ⟨rfl,rfl⟩
 | int i=>rw [h.int]; exact ⟨rfl,rfl⟩
 | str x=>rw [h.str]; exact ⟨rfl,rfl⟩
 | _=>cases f
theorem HDs.flat {K:PySem.W.Frag} {H:Hp}:∀ {xs:List V} {ds:List D},HDs K H xs ds->ds.all flatD=true->xs=ds.map dV /\ xs.all flatV=true
 | _,_,.nil,_=>⟨rfl,rfl⟩
 | _,_,.cons h t,f=>by
   rw [List.all_cons,Bool.and_eq_true] at f
   obtain ⟨e1,e2⟩:=HDs.flat t f.2
   obtain ⟨e3,e4⟩:=(ShD.of (A:=[]) (by rw [zj2]; exact h)).flat f.1
   exact ⟨by rw [List.map_cons,<- e1,<- e3],by rw [List.all_cons,e4,e2]; rfl⟩
theorem zlF (x:D) (l:List D):inV (dV x) (l.map dV)=l.any fun z=>eqD z x:=by
 unfold inV eqD
 rw [List.any_map]; rfl
section
variable {X:Cx}
theorem zjS:OpR X (compareOp .In) (rIn X.K false):=zie
theorem zhd:OpR X (compareOp .NotIn) (rIn X.K true):=zd3
end
set_option tactic.hygienic true in
theorem zgT {K:PySem.W.Frag} {A:List Addr} {H:Hp} {x y:V} {dx dy d:D} (hx:ShD K A H x dx) (hy:ShD K A H y dy) (e:dIn dx dy=some d):∃ p xs b,y=.ref p /\ (SqL K H p xs \/ SqT K H p xs) /\ flatV x=true /\ xs.all flatV=true /\ d=.bool b /\ inV x xs=b:=by
 unfold dIn at e
 split at e
 ·split at e
  ·rename_i hf
   rw [Bool.and_eq_true] at hf
   cases e
   obtain ⟨p,xs,rfl,h1,h2⟩:=hy.list
   obtain ⟨e1,e2⟩:=h2.flat hf.2
   obtain ⟨e3,e4⟩:=hx.flat hf.1
   exact ⟨p,xs,_,rfl,.inl h1.sq,e4,e2,rfl,by rw [e1,e3,zlF]⟩
  ·cases e
 ·split at e
  ·rename_i hf
   rw [Bool.and_eq_true] at hf
   cases e
   obtain ⟨p,xs,rfl,h1,h2⟩:=hy.tuple
   obtain ⟨e1,e2⟩:=h2.flat hf.2
   obtain ⟨e3,e4⟩:=hx.flat hf.1
   exact ⟨p,xs,_,rfl,.inr h1,e4,e2,rfl,by rw [e1,e3,zlF]⟩
  ·cases e
 ·cases e
theorem zjW {K:PySem.W.Frag}:Imp2 K (rIn K false) dIn:=by
 intro A H x y dx dy d Q al hx hy e q
 obtain ⟨p,xs,b,h1,h2,h3,h4,rfl,h5⟩:=zgT hx hy e
 refine ⟨p,xs,h1,h2,h3,h4,?_⟩
 show Q (.bl (inV x xs)) H
 rw [h5]
 exact q _ H (Same.refl H) (.bl _)
theorem zic {K:PySem.W.Frag}:Imp2 K (rIn K true) dNotIn:=by
 intro A H x y dx dy d Q al hx hy e q
 obtain ⟨c,e1,e2⟩:=bind1 e
 obtain ⟨p,xs,b,h1,h2,h3,h4,rfl,h5⟩:=zgT hx hy e1
 cases e2
 refine ⟨p,xs,h1,h2,h3,h4,?_⟩
 show Q (.bl (!inV x xs)) H
 rw [h5]
 exact q _ H (Same.refl H) (.bl _)
theorem zix (a b:Int):eqD (.int a) (.int b)=decide (a=b):=by
 simp only [eqD,dV,eqV]
 rw [Bool.beq_eq_decide_eq]
section
variable {X:Cx} {O:List Nat} {fr:Fr} {st:Stmt} {ge gx:DS->Option D} {gl:DS->Option (List D)} {i:Nat}
noncomputable def gClear (i:Nat):DS->Option Res:=fun δ=>(gVar i δ).bind fun x=>match x with
 | .list _=>some (.nx (δ.set i (some (.list []))))
 | _=>none
noncomputable def gExt (i:Nat) (g:DS->Option (List D)):DS->Option Res:=fun δ=>(gVar i δ).bind fun x=>(g δ).bind fun zs=>match x with
 | .list ds=>if ds.length + zs.length<=100000 then some (.nx (δ.set i (some (.list (ds ++ zs))))) else none
 | _=>none
theorem ziH (h:PS X st (tDrop (tBM0 X.K "list" rClear (tVar i)))) (hi:i∈O:=by decide):PS X st (tS X.K O fr (gClear i)):=h.mono fun E σ H hh=>hh.e fun H0 U A0 δ r R F ed P=>by
 obtain ⟨x,e1,e2⟩:=bind1 ed
 rcases R.owL i x hi (zB e1) with ⟨l,ys,ds,hl,rfl,hU,h1,h2⟩ | ⟨kds,rfl⟩
 rotate_left
 ·(exfalso; simp_all; done)
 cases e2
 refine ⟨.ref l,hl,.inl ⟨rfl,ys,SqL.of h1⟩,l,ys,rfl,rfl,h1,?_⟩
 exact P U σ _ (R.put hi hl hU .nil ⟨_,zB e1⟩) (F.put hU _)
set_option tactic.hygienic true in
theorem zbV (h:PS X st (tDrop (tBM X.K "list" rExtend (tVar i) (tCons (tN X.K O gl) tNil)))) (hi:i∈O:=by decide):PS X st (tS X.K O fr (gExt i gl)):=h.mono fun E σ H hh=>hh.e fun H0 U A0 δ r R F ed P=>by
 obtain ⟨x,e1,e2⟩:=bind1 ed
 obtain ⟨zs,e3,e4⟩:=bind1 e2
 rcases R.owL i x hi (zB e1) with ⟨l,ys,ds,hl,rfl,hU,h1,h2⟩ | ⟨kds,rfl⟩
 rotate_left
 ·(exfalso; simp_all; done)
 simp only at e4
 split at e4
 ·rename_i hz
  cases e4
  refine ⟨.ref l,hl,.inl ⟨rfl,ys,SqL.of h1⟩,U,A0,δ,zs,R,e3,fun p ws H' s hp hp1 hp2=>?_⟩
  have h1':=s _ _ h1
  have h2':=h2.same (zac (A:=U ++ A0) s)
  have hp3:=hp2.same (zcJ (A':=U ++ A0) fun a ha=>List.mem_cons_of_mem _ ha)
  have hlen:=h2.len
  have hlen2:=hp2.len
  refine ⟨l,p,ys,ws,rfl,rfl,h1',hp1,small (by omega),?_⟩
  exact P U σ _ ((R.same s).put hi hl hU (h2'.app hp3) ⟨_,zB e1⟩) ((F.grow s).put hU _)
 ·cases e4
end
end L2
namespace L2
open PySem PySem.Spec PyProof.Rows
section
variable {X:Cx} {O:List Nat} {tg a:Expr} {ge:DS->Option D} {p pos:Pos}
end
end L2
namespace L2
open PySem PySem.Spec PyProof.Rows
section
variable {X:Cx} {pins:List (Addr×Obj)} {σ:St} {H:Hp} {s:Shared} {h':Heap}
theorem Inv.turnedL {t':Nat} {ch:List Addr} (I:Inv X pins σ H s) (k:∀ b o,b∉ch->s.heap.get? b=some o->h'.get? b=some o) (hf:∀ b∈ch,FpOk X pins H b):Inv X pins σ H { s with heap:=h',toks:=t' }:=by
 have nit:∀ b u,H b=some u->b∉ch:=fun b u e z=>by rw [(hf b z).1] at e; cases e
 refine I.step (g':=s.gens) (d':=s.drawn) (ch:=ch) (fun b hb=>?_) (fun b o _ _ hc e _=>k b o hc e) (fun b o _ _ hc e _=>⟨o.slots,k b o hc e⟩) (fun _ _ _ _ n=>n)
  (fun b o hc e=>⟨o,k b o hc e⟩) (fun _ _ e=>e) (fun _ _ _ e=>e) (fun b ps e=>⟨#[],by rw [e]; simp⟩) (fun m hm=>?_) (fun b u e=>?_) I.bare
 ·obtain ⟨_,a,_,b',c,d⟩:=hf b hb
  exact ⟨b',a,c,d⟩
 ·obtain ⟨o,es,ep,ho,r⟩:=hm
  exact ⟨o,es,ep,k _ o (fun z=>(hf _ z).2.1 rfl) ho,r⟩
 ·refine (I.hok b u e).stay (fun c v hc q=>k c v ?_ q) (fun _ q=>q) fun _ _ q=>q
  rcases hc with z | z
  ·rw [z]; exact nit b u e
  ·exact nit c _ z
theorem Inv.trackT {D:Addr} {ys:List V} {its:List Value} (I:Inv X pins σ H s) (hD:H D=none) (hs:X.s₀.heap.objs.size<=D) (hl:D≠X.env.locals) (hc:∀ x c,X.env.cells.lookup x=some c->c≠D)
  (hp:∀ p∈X.pn ++ pins,p.1≠D) (e:IsTup s.heap D its.toArray) (r:Vals ys its) (hz:ys.length<=sizeLine):Inv X pins σ (upd H D (.tup ys)) s:=by
 have h:=I.step (H':=upd H D (.tup ys)) (h':=s.heap) (g':=s.gens) (t':=s.toks) (d':=s.drawn) (ch:=[D]) (fun b hb=>by
   have e:b=D:=by simpa using hb
   subst e
   exact ⟨.inr hs,hl,hc,hp⟩)
  (fun b o _ _ _ q _=>q) (fun b o _ _ _ q _=>⟨o.slots,q⟩) (fun b o hb _ q=>by rw [zn (by simpa using hb)]; exact q) (fun b o _ q=>⟨o,q⟩)
  (fun b xs q=>by rw [zn (zv q hD)]; exact q) (fun b o u q=>by rw [zn (zv q hD)]; exact q) (fun b ps q=>⟨#[],by rw [zn (zv q hD),Array.append_empty]; exact q⟩) (fun m hm=>hm) (fun b u q=>?_) I.bare
 ·exact h
 ·by_cases hb:b=D
  ·subst hb
   rw [zG] at q; cases q
   exact ⟨hz,its,r,e⟩
  ·rw [zn hb] at q
   exact (I.hok b u q).stay (fun _ _ _ z=>z) (fun c z=>by rw [zn (zv z hD)]; exact z) fun c xs z=>z.new hD
end
noncomputable def Ite (K:PySem.W.Frag) (a:Addr):It:=
 ⟨fun i H=>∃ xs x,SqL K H a xs /\ xs[i]?=some x,fun i H x H'=>∃ p v,H p=none /\ x=.ref p /\ H'=upd H p (.tup [.int i,v]) /\ ∀ xs,SqL K H a xs->xs[i]?=some v,fun i H=>∃ xs,SqL K H a xs /\ xs.length<=i⟩
theorem zg1 {P:Program} {w:World} {K:PySem.W.Frag} {es:List Expr} {kk} {tpos:Pos} (a e it:Addr) (hne:e≠it):Turn P w K (.Tuple es kk tpos) (Ite K a) [e,it] e (fun i h=>(∃ old,IsEnum h e it i old) /\ h.IsListIter it a i) where
 mem:=by simp
 obj:=fun i h st b hb=>by
  obtain ⟨⟨old,he⟩,o,ho,c,d⟩:=st
  rcases List.mem_cons.mp hb with z | z
  ·subst z; exact ⟨_,he,fun v z=>by cases z⟩
  ·have z:b=it:=by simpa using z
   subst z; exact ⟨o,ho,fun v z=>by rw [d] at z; cases z⟩
 keep:=fun i h h' st k=>by
  obtain ⟨⟨old,he⟩,st2⟩:=st
  exact ⟨⟨old,k e (by simp) _ he⟩,st2.at fun o eo=>k it (by simp) o eo⟩
 item:=by
  intro X hP hw hK hc i pins s σ H E I hf st hg
  subst hP hw hK
  obtain ⟨xs,x,hq,hx⟩:=hg
  obtain ⟨its,rv,p,hz⟩:=I.list hq
  obtain ⟨u,hu,ru⟩:=rv.get hx
  obtain ⟨⟨old,he⟩,st2⟩:=st
  refine wpAny_pyNext_enum_item he st2 p.isList (x:=u) (by simpa using hu) hne fun h1 heo hit1 ht1 hz1 hk1=>?_
  refine ⟨_,rfl,wpAny_letOwnedTupleGo_enum heo fun h2 he2 hs2=>?_⟩
  replace hs2:Heap.SameBut e h1 h2:=hs2
  have heH:e < s.heap.objs.size:=Heap.lt_size he
  have I1:Inv X pins σ H { s with heap:=h2,toks:=s.toks + 1 }:=I.turnedL (t':=s.toks + 1) (ch:=[e,it]) (fun b o hb eo=>by
   simp only [List.mem_cons,List.not_mem_nil,or_false,not_or] at hb
   exact (hs2.2 b hb.1).trans (hk1 b o hb.1 hb.2 eo)) hf
  have ht2:IsTup h2 s.heap.objs.size [Value.int i s.toks,u].toArray:=⟨_,(hs2.2 _ (Nat.ne_of_gt heH)).trans ht1,rfl,_,rfl⟩
  have hfr:H s.heap.objs.size=none:=I.hok.fresh (Nat.le_refl _)
  have fo:=I.fpOk (H':=H) (Nat.le_refl _) hfr
  have I2:Inv X pins σ (upd H s.heap.objs.size (.tup [.int i,x])) { s with heap:=h2,toks:=s.toks + 1 }:=I1.trackT hfr (Nat.le_trans I.sz (Nat.le_refl _)) fo.2.1 fo.2.2.2.2.1 fo.2.2.2.2.2 ht2 (.cons ⟨_,rfl⟩ (.cons ru .nil)) (by show 2<=sizeLine; decide)
  refine ⟨.ref s.heap.objs.size,_,I2,rfl,⟨_,x,hfr,rfl,rfl,fun ys hy=>by rw [I.list_inj hy hq]; exact hx⟩,⟨⟨u,he2⟩,hit1.extBut hs2.extBut (Ne.symm hne)⟩,fun b hb=>?_⟩
  have hlt:b < s.heap.objs.size:=by
   rcases List.mem_cons.mp hb with z | z
   ·subst z; exact heH
   ·have z:b=it:=by simpa using z
    subst z
    obtain ⟨o,ho,_⟩:=st2
    exact Heap.lt_size ho
  rw [zn (Nat.ne_of_lt hlt)]
  exact (hf b hb).1
 done:=by
  intro X hP hw hK hc i pins s σ H E I hf st hg
  subst hP hw hK
  obtain ⟨xs,hq,hx⟩:=hg
  obtain ⟨its,rv,p,hz⟩:=I.list hq
  obtain ⟨⟨old,he⟩,st2⟩:=st
  have hl:=rv.length
  refine wpAny_pyNext_enum_end (I.ok.hd hc) he st2 p.isList (by simp; omega) fun h1 eb=>⟨rfl,?_⟩
  exact I.turnedL (t':=s.toks) (ch:=[e,it]) (fun b o hb eo=>eb b o (fun z=>hb (by simp [z])) eo) hf
 self:=fun _ _ _ _ _ st h=>by
  obtain ⟨⟨old,he⟩,_⟩:=st
  exact wpAny_pyIter_enum he h
theorem zbt:bootBuiltins "enumerate"=some (.type "enumerate"):=by decide +kernel
noncomputable def enumD (l:List D):List D:=l.zipIdx.map fun p=>.tuple [.int (p.2:Nat),p.1]
theorem zd4 {l:List D} {i:Nat} {d:D} (h:(enumD l)[i]?=some d):∃ x,l[i]?=some x /\ d=.tuple [.int (i:Nat),x]:=by
 unfold enumD at h
 rw [List.getElem?_map,List.getElem?_zipIdx] at h
 cases e:l[i]? with
 | none=>rw [e] at h; cases h
 | some x=>rw [e] at h; simp at h; exact ⟨x,rfl,h.symm⟩
theorem zcW {l:List D}:(enumD l).length=l.length:=by unfold enumD; simp
section
variable {X:Cx} {O:List Nat} {a:Expr} {ge:DS->Option D} {p pos:Pos} {es:List Expr} {kk} {tpos:Pos}
noncomputable def iEnum (K:PySem.W.Frag) (ta:TA):TI:=fun σ H R=>ta σ H fun vs H1=>∃ a xs,vs=[.ref a] /\ SqL K H1 a xs /\ R (Ite K a) H1
theorem zkr {ta:TA} (hg:Gl X "enumerate") (hm:X.mg "enumerate"=none) (ha:PA X [a] ta) (hs:starEach [a] X.env=[(false,eval a X.env)]:=by rfl):PI X (.Tuple es kk tpos) (.Call (.Name "enumerate" p) [a] [] pos) (iEnum X.K ta):=by
 intro pins s σ H R I h
 refine Call_ (zbM I hg hm zbt (PyProof.Rows.callWith_type1 (thn (ha pos pins s σ H _ I h) fun us s1 ⟨vs,H1,I1,r1,q1⟩=>?_) hs rfl))
 obtain ⟨b,xs,e,hq,q⟩:=q1
 subst e
 obtain ⟨u,rfl,ru⟩:=vals1 r1
 cases ru
 obtain ⟨its,rv,pl,hz⟩:=I1.list hq
 refine call_enumerate_list pl.isList fun h' he hit hsz hk=>?_
 refine wpAny_pyIter_enum he ?_
 refine ⟨s1.heap.objs.size + 1,[s1.heap.objs.size + 1,s1.heap.objs.size],_,_,H1,rfl,I1.kept (t':=s1.toks) hk,zg1 b _ s1.heap.objs.size (Nat.succ_ne_self _),⟨⟨_,he⟩,hit⟩,fun b hb=>?_,q⟩
 have hle:s1.heap.objs.size<=b:=by
  simp only [List.mem_cons,List.not_mem_nil,or_false] at hb
  rcases hb with z | z
  ·rw [z]; exact Nat.le_succ _
  ·rw [z]; exact Nat.le_refl _
 exact I1.fpOk hle (I1.hok.fresh hle)
noncomputable def gEnumerate (g:DS->Option D):DS->Option (List D):=fun δ=>(g δ).bind fun | .list l=>some (enumD l) | _=>none
theorem zet (hm:X.mg "enumerate"=none) (ha:PE X a (tE X.K O ge)) (hg:Gl X "enumerate":=by rfl) (hs:starEach [a] X.env=[(false,eval a X.env)]:=by rfl) (hs0:starEach ([]:List Expr) X.env=[]:=by rfl):PI X (.Tuple es kk tpos) (.Call (.Name "enumerate" p) [a] [] pos) (tI X.K O (gEnumerate ge)):=
 (zkr hg hm (zC ha zY (by rw [hs,hs0])) hs).mono fun σ H Q hh=>hh.e fun U A0 δ ds R ed q=>by
  obtain ⟨x,e1,e2⟩:=bind1 ed
  cases x with
  | list l=>
    cases e2
    refine ⟨U,A0,δ,_,R,e1,fun v H' s h=>?_⟩
    cases h with
    | lst hq h=>
      refine ⟨_,_,rfl,(hq.same zZ).sq,q _ H' s ?_⟩
      intro A' i H2 s2 al
      have h2:=h.same s2
      have hL:SqL X.K H2 _ _:=((hq.same s2).same zZ).sq
      refine ⟨fun d hd=>?_,fun hi=>⟨_,hL,by rw [hi,zcW,h2.len]; exact Nat.le_refl _⟩⟩
      obtain ⟨y,hy,rfl⟩:=zd4 hd
      obtain ⟨v,hv,hvd⟩:=h2.get hy
      refine ⟨⟨_,v,hL,hv⟩,fun z H3 hz=>?_⟩
      obtain ⟨p,v',hp,rfl,rfl,hv'⟩:=hz
      have:=hv' _ hL
      rw [hv] at this
      cases this
      exact ⟨zI hp _,HD.newT al hp (.cons (.int _) (.cons hvd .nil))⟩
  | _=>cases e2
end
noncomputable def WalksS (K:PySem.W.Frag) (A:List Addr) (H1:Hp) (J:It) (ds:List D):Prop:=∀ (i:Nat) (H:Hp),Same H1 H->
 (∀ d,ds[i]?=some d->J.go i H /\ ∀ x H2,J.yld i H x H2->Same H H2 /\ HD K (wo H2 A) x d) /\ (i=ds.length->J.stop i H)
noncomputable def tIc (K:PySem.W.Frag) (O:List Nat) (g:DS->Option (List D)):TI:=fun σ H R=>∃ U A0 δ ds,Rel K O U A0 σ δ H /\ g δ=some ds /\ ∀ J H1,Same H H1->WalksS K (U ++ A0) H1 J ds->R J H1
theorem tIc.e {K:PySem.W.Frag} {O:List Nat} {g:DS->Option (List D)}  {σ:_} {H:_} {R:_} {GG:Prop} (hh:tIc K O g σ H R) (kk:∀ U A0 δ ds,(Rel K O U A0 σ δ H)->(g δ=some ds)->(∀ J H1,Same H H1->WalksS K (U ++ A0) H1 J ds->R J H1)->GG):GG:=by obtain ⟨U,A0,δ,ds,x0,x1,x2⟩:=hh; exact kk U A0 δ ds x0 x1 x2
section
variable {X:Cx} {O:List Nat} {tg e:Expr} {gi:DS->Option (List D)} {ge:DS->Option D} {pos:Pos}
theorem PI.c (h:PI X tg e (tI X.K O gi)):PI X tg e (tIc X.K O gi):=h.mono fun σ H Q hh=>hh.e fun U A0 δ ds R ed q=>⟨U,A0,δ,ds,R,ed,fun J H1 s hw=>q J H1 s fun i H2 s2=>hw (U ++ A0) i H2 (zac s2) ((R.same (s.trans s2)).al)⟩
theorem zkR (h:PE X e (tSh X.K O ge)):PI X tg e (tIc X.K O (gItems ge)):=(zjO h).mono fun σ H Q hh=>hh.e fun U A0 δ ds R ed q=>by
 obtain ⟨x,e1,e2⟩:=bind1 ed
 cases x with
 | list l=>
   cases e2
   refine ⟨U,A0,δ,_,R,e1,fun v H' s h=>?_⟩
   obtain ⟨p,xs,rfl,h1,h2⟩:=h.list
   refine .inl ⟨_,rfl,⟨_,h1.sq⟩,q _ H' s ?_⟩
   intro i H2 s2
   have h2':=h2.same (zac (A:=U ++ A0) s2)
   have hL:SqL X.K H2 _ _:=(h1.same s2).sq
   refine ⟨fun d hd=>?_,fun hi=>⟨_,hL,by rw [h2'.len]; omega⟩⟩
   obtain ⟨x,hx,hxd⟩:=h2'.get hd
   refine ⟨⟨_,x,hL,hx⟩,fun y H3 hy=>?_⟩
   obtain ⟨rfl,hy⟩:=hy
   have:=hy _ hL
   rw [hx] at this
   cases this
   exact ⟨Same.refl _,hxd⟩
 | tuple l=>
   cases e2
   refine ⟨U,A0,δ,_,R,e1,fun v H' s h=>?_⟩
   obtain ⟨p,xs,rfl,h1,h2⟩:=h.tuple
   refine .inr ⟨_,rfl,⟨_,h1⟩,q _ H' s ?_⟩
   intro i H2 s2
   have h2':=h2.same (zac (A:=U ++ A0) s2)
   have hL:SqT X.K H2 _ _:=s2.tup h1
   refine ⟨fun d hd=>?_,fun hi=>⟨_,hL,by rw [h2'.len]; omega⟩⟩
   obtain ⟨x,hx,hxd⟩:=h2'.get hd
   refine ⟨⟨_,x,hL,hx⟩,fun y H3 hy=>?_⟩
   obtain ⟨rfl,hy⟩:=hy
   have:=hy _ hL
   rw [hx] at this
   cases this
   exact ⟨Same.refl _,hxd⟩
 | _=>cases e2
end
section
variable {X:Cx} {O:List Nat} {fr:Fr} {scope:Scope} {x:Str} {elt iter:Expr} {px pos:Pos} {gi:DS->Option (List D)} {ge:DS->Option D}
end
end L2
namespace LS
open PySem PySem.Spec PyProof.Rows
section
variable {prog:Program} {w:World} {A:Around} {E:Value->Shared->Prop} {s:Shared} {it t:Addr} {i:Nat} {items:Array Value}
theorem zgs {x:Value} {Q:Value->Shared->Prop} (hit:s.heap.IsTupleIter it t i) (ht:s.heap.IsTuple t items) (hx:items[i]?=some x)
  (hQ:∀ h',h'.IsTupleIter it t (i + 1)->Heap.SameBut it s.heap h'->Q x { s with heap:=h' }):wpAny (model prog w) A (Builtin.SmallTypes.nextOf (.ref it)) Q E s:=by
 obtain ⟨o,ho,hc,hd⟩:=id hit
 obtain ⟨ol,hol,_,nl,hdl⟩:=ht
 unfold Builtin.SmallTypes.nextOf
 refine wpAny_bind (wpAny_callSpecial?_slot (name:=Str.ofString "__next__") hit.typeIs PySem.F.slot_tuple_iterator_next (wpAny_call_entry PySem.F.slot_tuple_iterator_next hit.typeIs PySem.F.entry_tuple_iterator_next ?_ (PySem.F.args_tuple_iterator_next_1 _)))
 show wpAny _ _ (field (.ref it) 0 >>= _) _ _ s
 refine wpAny_bind (wpAny_field ho hd (x:=.ref t) rfl ?_)
 show wpAny _ _ (if (Value.ref t == Value.none)=true then _ else _) _ _ s
 rw [if_neg (show ¬ ((Value.ref t == Value.none)=true) from Bool.false_ne_true)]
 show wpAny _ _ (field (.ref it) 1 >>= _) _ _ s
 refine wpAny_bind (wpAny_field ho hd (x:=.int i 0) rfl ?_)
 show wpAny _ _ (seqItems? (.ref t) >>= _) _ _ s
 refine wpAny_bind (wpAny_seqItems hol hdl ?_)
 simp only [Int.toNat_natCast,hx]
 refine wpAny_bind (wpAny_setField ho hd (by simp) (wpAny_pure ⟨x,rfl,wpAny_pure (hQ _ ?_ (Heap.SameBut.update ..))⟩))
 exact ⟨_,Heap.get?_update_self _ ho (Obj.isFreed_of_fields (Obj.data_mapFields hd _)),(Obj.cls_mapFields ..).trans hc,by rw [Obj.data_mapFields hd]; simp [rawInt]⟩
theorem zha {Q:Value->Shared->Prop} (hh:A.handled=none) (hit:s.heap.IsTupleIter it t i) (ht:s.heap.IsTuple t items) (hx:items[i]?=none)
  (hE:∀ h' e,Heap.ExtBut it s.heap h'->(∃ o,h'.get? e=some o /\ o.cls=.type "StopIteration")->E (.ref e) { s with heap:=h' }):wpAny (model prog w) A (Builtin.SmallTypes.nextOf (.ref it)) Q E s:=by
 obtain ⟨o,ho,hc,hd⟩:=id hit
 obtain ⟨ol,hol,_,nl,hdl⟩:=ht
 unfold Builtin.SmallTypes.nextOf
 refine wpAny_bind (wpAny_callSpecial?_slot (name:=Str.ofString "__next__") hit.typeIs PySem.F.slot_tuple_iterator_next (wpAny_call_entry PySem.F.slot_tuple_iterator_next hit.typeIs PySem.F.entry_tuple_iterator_next ?_ (PySem.F.args_tuple_iterator_next_1 _)))
 show wpAny _ _ (field (.ref it) 0 >>= _) _ _ s
 refine wpAny_bind (wpAny_field ho hd (x:=.ref t) rfl ?_)
 show wpAny _ _ (if (Value.ref t == Value.none)=true then _ else _) _ _ s
 rw [if_neg (show ¬ ((Value.ref t == Value.none)=true) from Bool.false_ne_true)]
 show wpAny _ _ (field (.ref it) 1 >>= _) _ _ s
 refine wpAny_bind (wpAny_field ho hd (x:=.int i 0) rfl ?_)
 show wpAny _ _ (seqItems? (.ref t) >>= _) _ _ s
 refine wpAny_bind (wpAny_seqItems hol hdl ?_)
 simp only [Int.toNat_natCast,hx]
 refine wpAny_bind (wpAny_rule (wpAny_bind (wpAny_setField ho hd (by simp) ?_)))
 show wpAny _ _ (newExc (.type "StopIteration") [] >>= _) _ _ _
 refine wpAny_bind ?_
 simp only [newExc,newTuple]
 refine wpAny_bind (wpAny_newObj_type ?_ (by size_fits))
 refine wpAny_bind (m:=firstArgMember _ _) (wpAny_of_eq (a:=Value.none) (by first | rfl | (simp only [firstArgMember]; rfl)) ?_)
 refine wpAny_newObj_type ?_ (by size_fits)
 simp only [raiseNew]
 refine wpAny_bind (wpAny_handled ?_)
 first | rw [show A.in1.handled=none from hh] | rw [hh]
 refine wpAny_bind (wpAny_pure (wpAny_throw ?_))
 exact hE _ _ (((Heap.SameBut.update ..).extBut.push _).push _) ⟨_,Heap.get?_push_size _ rfl,rfl⟩
theorem zbo (hh:A.handled=none) (it l:Addr) (hne:l≠it) (items:Array Value):
  Draws prog w A it [it,l] items.size (fun i v=>items[i]?=some v) (fun i h=>h.IsTupleIter it l i /\ h.IsTuple l items) where
 live:=fun _ _ st=>let ⟨o,ho,_⟩:=st.1; ⟨o,ho⟩
 frame:=fun _ _ _ st hk=>⟨st.1.at fun o e=>hk it (by simp) o e,st.2.at fun o e=>hk l (by simp) o e⟩
 item:=fun i s Q E hi st hQ=>zgs st.1 st.2 (x:=items[i]) (by simp [hi]) fun h' hit' hs'=>hQ _ h' s.toks (by simp [hi]) ⟨hit',st.2.extBut hs'.extBut hne⟩ hs'
 done:=fun s Q E st hE=>zha hh st.1 st.2 (by simp) hE
end
set_option maxHeartbeats 1000000 in
set_option tactic.hygienic true in
theorem newT (l:Addr) (items:Array Value) (n:Nat) (dct:Option Addr) (sl:Array (Option Value)):
  Meets (Builtin.«enumerate.__new__» ⟨[.type "enumerate",.ref l],[]⟩) (fun _ R s=>s.heap.get? l=some { cls:=.type "tuple",dict:=dct,data:=.seq items n,slots:=sl } /\
   R (.ok (.ret (.ref (s.heap.push { cls:=.type "tuple_iterator",data:=.fields #[.ref l,.int 0 0] }).objs.size)))
     { s with heap:=(s.heap.push { cls:=.type "tuple_iterator",data:=.fields #[.ref l,.int 0 0] }).push { cls:=.type "enumerate",data:=.fields #[.none,.bool false,.ref s.heap.objs.size,rawInt 0,.none,.none] } }):=
 .of_wp fun prog w A R s h=>by
  obtain ⟨hp,g,d,tk,os⟩:=s; obtain ⟨hl,h⟩:=h
  have hsub:=sub_enumerate
  have hL:Heap.IsTuple (Shared.heap ⟨hp,g,d,tk,os⟩) l items:=⟨_,hl,rfl,n,rfl⟩
  wp_walk using AutoSeq1.wpAny_loadPart' hl
  refine wpAny_stack_any fun st=>wpAny_pure ?_
  split
  ·rename_i c _ _ _ _ _
   cases (c == Value.type "enumerate")
   ·wp_walk using AutoSeq1.wpAny_loadPart' hl,wpAny_pyIter_tuple hL
    exact ⟨_,rfl,h⟩
   ·wp_walk using AutoSeq1.wpAny_loadPart' hl,wpAny_pyIter_tuple hL
    exact ⟨_,rfl,h⟩
  ·wp_walk using AutoSeq1.wpAny_loadPart' hl,wpAny_pyIter_tuple hL
   exact ⟨_,rfl,h⟩
section
variable {prog:Program} {w:World} {A:Around} {E:Value->Shared->Prop} {s:Shared}
theorem zgE {l:Addr} {items:Array Value} {Q:Value->Shared->Prop} (hL:s.heap.IsTuple l items)
  (h:∀ h',IsEnum h' (s.heap.objs.size + 1) s.heap.objs.size 0 .none->h'.IsTupleIter s.heap.objs.size l 0->h'.objs.size=s.heap.objs.size + 2->(∀ b o,s.heap.get? b=some o->h'.get? b=some o)->Q (.ref (s.heap.objs.size + 1)) { s with heap:=h' }):
  wpAny (model prog w) A (call (.type "enumerate") [.ref l]) Q E s:=by
 obtain ⟨⟨c,dct,dt,sl⟩,hl,hc,n,hd⟩:=hL
 simp only at hc hd
 subst hc hd
 refine callType_new PySem.F.called_enumerate (by decide) (PySem.F.typeCall_enumerate_1 _) (PySem.F.newCall_enumerate_1 _) (fun obj=>PySem.F.args_object_init_2 obj _) PySem.F.entry_enumerate_new (newT l items n dct sl) ⟨hl,?_⟩
 have hz:(s.heap.push { cls:=.type "tuple_iterator",data:=.fields #[.ref l,.int 0 0] }).objs.size=s.heap.objs.size + 1:=Heap.size_push ..
 show _ /\ _
 rw [hz]
 have he:IsEnum ((s.heap.push { cls:=.type "tuple_iterator",data:=.fields #[.ref l,.int 0 0] }).push { cls:=.type "enumerate",data:=.fields #[.none,.bool false,.ref s.heap.objs.size,rawInt 0,.none,.none] }) (s.heap.objs.size + 1) s.heap.objs.size 0 .none:=by
  have q:=Heap.get?_push_size (s.heap.push { cls:=.type "tuple_iterator",data:=.fields #[.ref l,.int 0 0] }) (o:={ cls:=.type "enumerate",data:=.fields #[.none,.bool false,.ref s.heap.objs.size,rawInt 0,.none,.none] }) rfl
  rw [hz] at q; exact q
 exact ⟨⟨_,he,rfl⟩,h _ he ⟨_,Heap.get?_push_of_some _ (Heap.get?_push_size _ rfl),rfl,rfl⟩ (by rw [Heap.size_push,hz]) fun b o x=>Heap.get?_push_of_some _ (Heap.get?_push_of_some _ x)⟩
end
end LS
namespace LS
open PySem
noncomputable def Ris (l:List Nat):Prop:=l.Pairwise (· < ·)
theorem zb2 {xs:Array Nat} (h:Ris xs.toList) {a b:Nat} (hab:a < b) (hb:b < xs.size) (d e:Nat):xs.getD a d < xs.getD b e:=by
 have ha:a < xs.size:=by omega
 have:=List.pairwise_iff_getElem.mp h a b (by simpa using ha) (by simpa using hb) hab
 simpa [Array.getD,ha,hb] using this
theorem ziF {xs:Array Nat} (hs:Ris xs.toList) (j:Nat) (fuel:Nat):∀ (lo hi:Nat),hi - lo<=fuel->lo<=hi->hi<=xs.size->(∀ k,k < lo->xs.getD k 0 < j)->(∀ k,hi<=k->k < xs.size->j<=xs.getD k 0)->
  SetTable.below.go xs j fuel lo hi<=xs.size /\ (∀ k,k < SetTable.below.go xs j fuel lo hi->xs.getD k 0 < j) /\ ∀ k,SetTable.below.go xs j fuel lo hi<=k->k < xs.size->j<=xs.getD k 0:=by
 induction fuel with
 | zero=>
   intro lo hi h1 h2 h3 h4 h5
   have e:lo=hi:=Nat.le_antisymm h2 (Nat.le_of_sub_eq_zero (Nat.le_zero.mp h1))
   subst e
   exact ⟨h3,h4,h5⟩
 | succ fuel ih=>
   intro lo hi h1 h2 h3 h4 h5
   rw [SetTable.below.go]
   by_cases hl:lo < hi
   ·rw [if_pos hl]
    have a:lo<=(lo + hi) / 2 /\ (lo + hi) / 2 < hi:=by omega
    dsimp only
    generalize (lo + hi) / 2=m at a
    have hm:m < xs.size:=Nat.lt_of_lt_of_le a.2 h3
    have hg:xs.getD m j=xs.getD m 0:=by simp [Array.getD,hm]
    rw [hg]
    by_cases hc:xs.getD m 0 < j
    ·rw [if_pos hc]
     refine ih _ hi (by omega) a.2 h3 (fun k hk=>?_) h5
     rcases Nat.lt_or_eq_of_le (Nat.le_of_lt_succ hk) with q | q
     ·exact Nat.lt_trans (zb2 hs q hm 0 0) hc
     ·rw [q]; exact hc
    ·rw [if_neg hc]
     have hc:=Nat.le_of_not_lt hc
     refine ih lo _ (by omega) a.1 (Nat.le_of_lt hm) h4 (fun k hk hk'=>?_)
     rcases Nat.lt_or_eq_of_le hk with q | q
     ·exact Nat.le_trans hc (Nat.le_of_lt (zb2 hs q hk' 0 0))
     ·rw [<- q]; exact hc
   ·rw [if_neg hl]
    have e:lo=hi:=Nat.le_antisymm h2 (Nat.le_of_not_lt hl)
    subst e
    exact ⟨h3,h4,h5⟩
theorem zfQ {xs:Array Nat} (hs:Ris xs.toList) (j:Nat):SetTable.below xs j<=xs.size /\ (∀ k,k < SetTable.below xs j->xs.getD k 0 < j) /\ ∀ k,SetTable.below xs j<=k->k < xs.size->j<=xs.getD k 0:=
 ziF hs j xs.size 0 xs.size (by omega) (Nat.zero_le _) (Nat.le_refl _) (fun k hk=>by omega) fun k h1 h2=>by omega
theorem zdM {xs:Array Nat} (hs:Ris xs.toList) {i j:Nat} (hi:i<=xs.size) (h1:∀ k,k < i->xs.getD k 0 < j) (h2:∀ k,i<=k->k < xs.size->j<=xs.getD k 0):SetTable.below xs j=i:=by
 obtain ⟨a,b,c⟩:=zfQ hs j
 rcases Nat.lt_trichotomy (SetTable.below xs j) i with h | h | h
 ·have:=h1 _ h
  have:=c _ (Nat.le_refl _) (by omega)
  omega
 ·exact h
 ·have:=b i h
  have:=h2 i (Nat.le_refl _) (by omega)
  omega
theorem zjp {xs:Array Nat} (hs:Ris xs.toList) {j:Nat} (h:xs[SetTable.below xs j]?≠some j):j∉xs.toList:=by
 intro hm
 obtain ⟨k,hk,e⟩:=List.getElem_of_mem hm
 have hk':k < xs.size:=by simpa using hk
 have ek:xs.getD k 0=j:=by simpa [Array.getD,hk'] using e
 have:SetTable.below xs j=k:=zdM hs (Nat.le_of_lt hk') (fun i hi=>by rw [<- ek]; exact zb2 hs hi hk' 0 0) (fun i h1 h2=>by
  by_cases hik:k=i
  ·subst hik; omega
  ·have:=zb2 hs (show k < i by omega) h2 0 0
   omega)
 rw [this] at h
 refine h ?_
 rw [Array.getElem?_eq_getElem hk']
 simpa using e
theorem zks {t:SetTable} (hs:Ris t.place.toList) {j:Nat} (h:t.place[SetTable.below t.place j]?≠some j):Ris (t.put j).1.place.toList:=by
 have hn:=zjp hs h
 obtain ⟨a,b,c⟩:=zfQ hs j
 show Ris (SetTable.insertAt t.place (SetTable.below t.place j) j).toList
 rw [SetTable.toList_insertAt]
 have hs':(t.place.toList.take (SetTable.below t.place j) ++ t.place.toList.drop (SetTable.below t.place j)).Pairwise (· < ·):=by rw [List.take_append_drop]; exact hs
 rw [List.pairwise_append] at hs'
 refine List.pairwise_append.mpr ⟨hs'.1,List.pairwise_cons.mpr ⟨fun x hx=>?_,hs'.2.1⟩,fun x hx y hy=>?_⟩
 ·obtain ⟨k,hk,e⟩:=List.getElem_of_mem hx
  rw [List.getElem_drop] at e
  have hk2:SetTable.below t.place j + k < t.place.size:=by
   have:=List.length_drop (i:=SetTable.below t.place j) (l:=t.place.toList)
   have hk3:=hk
   rw [this] at hk3
   simp at hk3
   omega
  have:=c (SetTable.below t.place j + k) (by omega) hk2
  have e2:t.place.getD (SetTable.below t.place j + k) 0=x:=by simpa [Array.getD,hk2] using e
  have hne:x≠j:=fun z=>hn (by rw [<- z]; exact List.mem_of_mem_drop hx)
  omega
 ·obtain ⟨k,hk,e⟩:=List.getElem_of_mem hx
  have hk2:k < SetTable.below t.place j:=by
   have:=List.length_take (i:=SetTable.below t.place j) (l:=t.place.toList)
   omega
  have hk3:k < t.place.size:=by omega
  rw [List.getElem_take] at e
  have e2:t.place.getD k 0=x:=by simpa [Array.getD,hk3] using e
  have hxj:=b k hk2
  rw [e2] at hxj
  rcases List.mem_cons.mp hy with z | z
  ·rw [z]; exact hxj
  ·exact hs'.2.2 x hx y z
set_option tactic.hygienic true in
theorem zb1 {t:SetTable} {f:Nat->Int} {h:Int}:∀ {fuel:Nat} {p:SetTable.Probe} {j:Nat} {dm:Option Nat},(∀ d,p.dummy=some d->t.place[SetTable.below t.place d]?≠some d)->
  SetTable.probe.go t f h fuel p=some (.empty j dm)->t.place[SetTable.below t.place (dm.getD j)]?≠some (dm.getD j)
 | 0,p,j,dm,_,e=>by cases e
 | fuel + 1,p,j,dm,hd,e=>by
   have hdm:∀ q:SetTable.Probe,(t.advance q).dummy=q.dummy:=fun q=>by unfold SetTable.advance; split <;> rfl
   rw [SetTable.probe.go] at e
   have nl:∀ i,t.slot i=.empty \/ t.slot i=.dummy->t.place[SetTable.below t.place i]?≠some i:=by
    intro i hi z
    unfold SetTable.slot at hi
    dsimp only at hi
    rw [z] at hi
    simp at hi
   split at e
   ·rename_i hs
    cases e
    cases hp:p.dummy with
    | none=>exact nl _ (.inl hs)
    | some d=>exact hd d hp
   ·rename_i hs
    refine zb1 (fun d hd'=>?_) e
    rw [hdm] at hd'
    cases hd'
    exact nl _ (.inr hs)
   ·split at e
    ·cases e
    ·exact zb1 (fun d hd'=>hd d (by rw [hdm] at hd'; exact hd')) e
theorem zbS (n:Nat):Ris (Array.range n).toList:=by rw [Array.toList_range]; exact List.pairwise_lt_range
theorem zdu {t:SetTable} {n:Nat} (h:Ris t.place.toList):Ris (t.orStandIn n).place.toList /\ (t.orStandIn n).led=t.led:=by
 unfold SetTable.orStandIn
 split
 ·exact ⟨h,rfl⟩
 ·exact ⟨zbS n,rfl⟩
set_option tactic.hygienic true in
theorem zgf {t:SetTable} {es:Array (Int×Value)} {h:Int} {x:Value} (hs:Ris t.place.toList):Ris (layNew t es h x).2.1.place.toList /\ (layNew t es h x).2.1.led=t.led:=by
 unfold layNew
 split
 ·rename_i slot wd e
  unfold SetTable.freeSlot at e
  split at e
  ·rename_i j dm ep
   cases e
   have:=zb1 (t:=t) (fun d z=>by cases z) ep
   obtain ⟨a,b⟩:=zdu (n:=(SetTable.insertAt es (t.put (dm.getD j)).2 (h,x)).size) (zks hs this)
   exact ⟨a,b⟩
  ·cases e
 ·exact ⟨zbS _,rfl⟩
set_option tactic.hygienic true in
theorem zdW {t:SetTable} {es:Array (Int×Value)} {n:Nat}:Ris (relayAll t es n).2.1.place.toList /\ (relayAll t es n).2.1.led=t.led:=by
 unfold relayAll
 split
 ·rename_i t' order e
  dsimp only
  split
  ·unfold SetTable.relaid SetTable.laid at e
   obtain ⟨owner,_,e2⟩:=Option.bind_eq_some_iff.mp e
   cases e2
   refine ⟨?_,rfl⟩
   show Ris (List.map _ _)
   refine List.pairwise_map.mpr (List.pairwise_filterMap.mpr ?_)
   refine List.pairwise_lt_range.imp fun {a b} hab x hx y hy=>?_
   cases ea:owner.getD a none with
   | none=>rw [ea] at hx; cases hx
   | some u=>
     cases eb:owner.getD b none with
     | none=>rw [eb] at hy; cases hy
     | some v=>
       rw [ea] at hx; rw [eb] at hy
       cases hx; cases hy
       exact hab
  ·exact ⟨zbS _,rfl⟩
 ·exact ⟨zbS _,rfl⟩
end LS
namespace LS
open PySem PyProof.Rows
noncomputable def iv:Value->Int
 | .int n _=>n
 | _=>0
theorem zaa:∀ {vs:List Value} {ns:List Int},IntsAre vs ns↔(∀ v∈vs,∃ n t,v=.int n t) /\ ns=vs.map iv
 | [],ns=>⟨fun h=>by cases h; exact ⟨fun v hv=>by simp at hv,rfl⟩,fun ⟨_,h⟩=>by subst h; exact .nil⟩
 | v :: vs,ns=>⟨fun h=>by
     cases h with
     | cons n t h=>
       obtain ⟨h1,h2⟩:=zaa.mp h
       refine ⟨fun u hu=>?_,by rw [h2]; rfl⟩
       rcases List.mem_cons.mp hu with z | z
       ·exact ⟨n,t,z⟩
       ·exact h1 u z,fun ⟨h1,h2⟩=>by
     obtain ⟨n,t,rfl⟩:=h1 v List.mem_cons_self
     subst h2
     exact .cons n t (zaa.mpr ⟨fun u hu=>h1 u (List.mem_cons_of_mem _ hu),rfl⟩)⟩
theorem zcT {vs vs':List Value} {ns:List Int} (h:IntsAre vs ns) (p:vs'.Perm vs):∃ ns',IntsAre vs' ns' /\ ns'.Perm ns:=by
 obtain ⟨h1,h2⟩:=zaa.mp h
 exact ⟨vs'.map iv,zaa.mpr ⟨fun v hv=>h1 v (p.mem_iff.mp hv),rfl⟩,by rw [h2]; exact p.map iv⟩
noncomputable def ISet (prog:Program) (w:World) (h:Heap) (a:Addr) (led:Bool) (ns:List Int):Prop:=∃ o es ep t,h.get? a=some o /\ o.ExactSet /\ o.data=.set es ep t /\ ElemsOf (intKind prog w) es.toList /\
 IntsAre (es.toList.map (·.2)) ns /\ ns.Nodup /\ es.size < scanBound /\ t.fits es.size=true /\ t.led=led /\ Ris t.place.toList
section
variable {prog:Program} {w:World} {A:Around} {E:Value->Shared->Prop} {s:Shared} {a:Addr} {led:Bool} {ns:List Int}
theorem ISet.keeps {h h':Heap} (x:ISet prog w h a led ns) (k:∀ o,h.get? a=some o->h'.get? a=some o):ISet prog w h' a led ns:=by
 obtain ⟨o,es,ep,t,ho,r⟩:=x
 exact ⟨o,es,ep,t,k o ho,r⟩
theorem zfO {h:Heap} {o:Obj} {es:Array (Int×Value)} {ep:Nat} {t:SetTable} (ho:h.get? a=some o) (hex:o.ExactSet) (hd:o.data=.set es ep t) {es':Array (Int×Value)} {t':SetTable} {ns':List Int}
  (h1:ElemsOf (intKind prog w) es'.toList) (h2:IntsAre (es'.toList.map (·.2)) ns') (h3:ns'.Nodup) (h4:es'.size < scanBound) (h5:t'.fits es'.size=true) (h6:t'.led=led) (h7:Ris t'.place.toList):
  (h.update a (Obj.putSet es' t')).get? a=some { o with data:=.set es' (ep + 1) t' } /\ ISet prog w (h.update a (Obj.putSet es' t')) a led ns':=by
 have hg:(h.update a (Obj.putSet es' t')).get? a=some { o with data:=.set es' (ep + 1) t' }:=by
  have q:=Heap.get?_update_self (Obj.putSet es' t') ho (by rw [putSet_of es' t' hd]; rfl)
  rwa [putSet_of es' t' hd] at q
 exact ⟨hg,_,es',ep + 1,t',hg,hex,rfl,h1,h2,h3,h4,h5,h6,h7⟩
theorem zen {g:Bool->Sem Unit} (hg:∀ (b:Bool) (s₁:Shared) (Q':Unit->Shared->Prop),Q' () s₁->wpAny (model prog w) A (g b) Q' E s₁) {o:Obj} {es:Array (Int×Value)} {ep:Nat} {t:SetTable}
  (ho:s.heap.get? a=some o) (hex:o.ExactSet) (hd:o.data=.set es ep t) {es1:Array (Int×Value)} {t2:SetTable} {ns1:List Int} (h1:ElemsOf (intKind prog w) es1.toList) (h2:IntsAre (es1.toList.map (·.2)) ns1) (h3:ns1.Nodup) (h4:es1.size < scanBound)
  (h5:t2.fits es1.size=true) (h6:t2.led=led) (h7:Ris t2.place.toList) {wd:Bool} {R:Option Bool->Shared->Prop}
  (h:∀ h' ns',Heap.SameBut a s.heap h'->ISet prog w h' a led ns'->ns'.Perm ns1->R (some true) { s with heap:=h' }):
  wpAny (model prog w) A (do
    storeSet a es1 t2
    if (!wd && t2.tooFull)=true then do
        g (relayAll t2 es1 (SetTable.grown es1.size)).2.2
        storeSet a (relayAll t2 es1 (SetTable.grown es1.size)).1 (relayAll t2 es1 (SetTable.grown es1.size)).2.1
        pure (some true)
     else pure (some true)) R E s:=by
 refine wpAny_bind (wpAny_storeSet_of ho hd ?_ (fits_of_scanBound h4))
 obtain ⟨ho1,S1⟩:=zfO (led:=led) ho hex hd h1 h2 h3 h4 h5 h6 h7
 have b1:=Heap.SameBut.update s.heap a (Obj.putSet es1 t2)
 split
 ·have hp:=relayAll_perm t2 es1 (SetTable.grown es1.size)
  have hf:=relayAll_fits t2 es1 (SetTable.grown es1.size)
  obtain ⟨hr,hl⟩:=zdW (t:=t2) (es:=es1) (n:=SetTable.grown es1.size)
  generalize relayAll t2 es1 (SetTable.grown es1.size)=Z at hp hf hr hl ⊢
  obtain ⟨es2,t3,gave⟩:=Z
  dsimp only at hp hf hr hl ⊢
  obtain ⟨ns2,i2,p2⟩:=zcT h2 (hp.map (·.2))
  have hz:es2.size=es1.size:=by rw [<- Array.length_toList,hp.length_eq,Array.length_toList]
  have b2:es2.size < scanBound:=by rw [hz]; exact h4
  refine wpAny_bind (hg _ _ _ (wpAny_bind (wpAny_storeSet_of ho1 rfl ?_ (fits_of_scanBound b2))))
  obtain ⟨_,S2⟩:=zfO (led:=led) ho1 hex rfl (h1.perm hp) i2 (p2.nodup_iff.mpr h3) b2 hf (hl.trans h6) hr
  exact wpAny_pure (h _ ns2 (b1.trans (Heap.SameBut.update _ a _)) S2 p2)
 ·exact wpAny_pure (h _ ns1 b1 S1 (.refl _))
theorem zfA {es:List (Int×Value)} {i:Int} (h:IntsAre (es.map (·.2)) ns):i∈ns↔∃ e∈es,Value.isInt i e.2=true:=by
 obtain ⟨h1,h2⟩:=zaa.mp h
 subst h2
 constructor
 ·intro hm
  obtain ⟨v,hv,e⟩:=List.mem_map.mp hm
  obtain ⟨x,hx,rfl⟩:=List.mem_map.mp hv
  obtain ⟨n,t,q⟩:=h1 _ hv
  rw [q] at e
  cases e
  exact ⟨x,hx,by rw [q]; simp [Value.isInt,iv]⟩
 ·rintro ⟨e,he,q⟩
  obtain ⟨t,z⟩:=Value.isInt_shape q
  exact List.mem_map.mpr ⟨e.2,List.mem_map.mpr ⟨e,he,rfl⟩,by rw [z]; rfl⟩
theorem ziP {i:Int} {tk:Tok} {Q:Bool->Shared->Prop} (hS:ISet prog w s.heap a led ns) (room:ns.length + 1 < scanBound)
  (h:∀ h' ns' b,Heap.SameBut a s.heap h'->ISet prog w h' a led ns'->(∀ k,k∈ns'↔k∈ns \/ k=i)->ns'.length<=ns.length + 1->Q b { s with heap:=h' }):
  wpAny (model prog w) A (setAddHashed a (.int i tk) (hashInt i)) Q E s:=by
 obtain ⟨o,es,ep,t,ho,hex,hd,h1,h2,h3,h4,h5,h6,h7⟩:=hS
 have hlen:ns.length=es.size:=by
  obtain ⟨_,e⟩:=zaa.mp h2
  rw [e]; simp
 have hk:(intKind prog w).is i (.int i tk)=true:=intKind_is prog w i tk
 have hsc:(Value.int i tk).scannable=true:=rfl
 unfold setAddHashed setAddHashedIn
 refine wpAny_holding (wpAny_bind (wpAny_setState_of ho hd h5 ?_))
 dsimp only
 rw [byScan_of hsc h4 h1]
 simp only [↓reduceIte]
 unfold setAddByScan
 refine wpAny_bind (wpAny_bind (wpAny_rule (wpAny_bind (wpAny_setScan_of (knd:=intKind prog w) (k:=i) hk ho hd h5 h1 ?_))))
 cases hf:List.findIdx? (fun e=>(intKind prog w).is i e.2) es.toList with
 | some j=>
   dsimp only
   obtain ⟨hj,hpj,_⟩:=List.findIdx?_eq_some_iff_getElem.mp hf
   have hm:i∈ns:=(zfA h2).mpr ⟨_,List.getElem_mem hj,hpj⟩
   refine wpAny_pure (wpAny_pure ?_)
   have q:=h s.heap ns false (Heap.SameBut.refl a s.heap) ⟨o,es,ep,t,ho,hex,hd,h1,h2,h3,h4,h5,h6,h7⟩ (fun k=>⟨.inl,fun z=>z.elim id fun e=>e ▸ hm⟩) (Nat.le_succ _)
   exact q
 | none=>
   dsimp only
   have hn:i∉ns:=fun hm=>by
    obtain ⟨e,he,q⟩:=(zfA h2).mp hm
    have z:=List.findIdx?_eq_none_iff.mp hf e he
    rw [show (intKind prog w).is i e.2=true from q] at z
    cases z
   have gw:∀ (b:Bool) {s₁:Shared} {Q':Unit->Shared->Prop},Q' () s₁->wpAny (model prog w) A (match b with | true=>rule "set.scan.the-table-gave-way" | false=>pure ()) Q' E s₁:=
    fun b s₁ Q' hq=>by cases b <;> first | exact wpAny_pure hq | exact wpAny_rule hq
   have hp:=layNew_perm t es (hashInt i) (.int i tk)
   have hft:=layNew_fits t es (hashInt i) (.int i tk)
   obtain ⟨hr,hl⟩:=zgf (t:=t) (es:=es) (h:=hashInt i) (x:=.int i tk) h7
   generalize layNew t es (hashInt i) (.int i tk)=Z at hp hft hr hl ⊢
   obtain ⟨es1,t1,wd,gave⟩:=Z
   dsimp only at hp hft hr hl ⊢
   rw [Array.toList_push] at hp
   have e1:ElemsOf (intKind prog w) es1.toList:=(h1.push hk hsc).perm hp
   have i0:IntsAre ((es.toList ++ [(hashInt i,Value.int i tk)]).map (·.2)) (ns ++ [i]):=by
    obtain ⟨x1,x2⟩:=zaa.mp h2
    refine zaa.mpr ⟨fun v hv=>?_,by rw [x2]; simp [iv]⟩
    rw [List.map_append] at hv
    rcases List.mem_append.mp hv with z | z
    ·exact x1 v z
    ·simp at z; exact ⟨i,tk,z⟩
   obtain ⟨ns1,i1,p1⟩:=zcT i0 (hp.map (·.2))
   have nd:ns1.Nodup:=p1.nodup_iff.mpr (by
    rw [List.nodup_append]
    exact ⟨h3,by simp,fun x hx y hy=>by simp at hy; rw [hy]; exact fun z=>hn (z ▸ hx)⟩)
   have hz:es1.size=es.size + 1:=by rw [<- Array.length_toList,hp.length_eq,List.length_append,Array.length_toList]; rfl
   have b1:es1.size < scanBound:=by omega
   have fin:∀ h' ns',Heap.SameBut a s.heap h'->ISet prog w h' a led ns'->ns'.Perm ns1->Q true { s with heap:=h' }:=fun h' ns' sb S p=>by
    refine h h' ns' true sb S (fun k=>?_) ?_
    ·rw [p.mem_iff,p1.mem_iff]; simp
    ·rw [p.length_eq,p1.length_eq]; simp
   refine wpAny_bind (gw _ ?_)
   split
   ·rw [hashByValue_scannable 8 hsc]
    refine wpAny_bind (wpAny_pure ?_)
    refine zen (led:=led) ?_ ho hex hd e1 i1 nd b1 ?_ ?_ ?_ fun h' ns' sb S p=>?_
    ·intro b s₁ Q' hq; cases b <;> first | exact wpAny_pure hq | exact wpAny_rule hq
    ·split
     ·exact hft
     ·exact SetTable.fits_plain_off hft
    ·split <;> exact hl.trans h6
    ·split <;> exact hr
    ·dsimp only; exact wpAny_pure (fin h' ns' sb S p)
   ·refine wpAny_bind (wpAny_pure ?_)
    simp only [↓reduceIte]
    refine zen (led:=led) ?_ ho hex hd e1 i1 nd b1 hft (hl.trans h6) hr fun h' ns' sb S p=>?_
    ·intro b s₁ Q' hq; cases b <;> first | exact wpAny_pure hq | exact wpAny_rule hq
    ·dsimp only; exact wpAny_pure (fin h' ns' sb S p)
end
end LS
namespace LS
open PySem PySem.Spec PyProof.Rows
section
variable {prog:Program} {w:World} {A:Around} {E:Value->Shared->Prop} {s:Shared}
noncomputable abbrev ledOf (w:World):Bool:= !w.params.followText "set-order"
noncomputable abbrev bareSet (w:World):Obj:={ cls:=.type "set",dict:=none,data:=.set #[] 0 (.fresh 0 0 (ledOf w)) }
theorem zig {h:Heap} {a:Addr} (e:h.get? a=some (bareSet w)):ISet prog w h a (ledOf w) []:=
 ⟨_,#[],0,_,e,⟨rfl,rfl,rfl⟩,rfl,fun x hx=>by simp at hx,.nil,.nil,by decide,rfl,rfl,List.Pairwise.nil⟩
theorem zkL (a:Value) {Q₁:Value->Shared->Prop} (h:Q₁ (.ref s.heap.objs.size) { s with heap:=s.heap.push (bareSet w) }):
  codeAny (model prog w) A (.call (.builtin "set.__new__") ⟨[.type "set",a],[]⟩) (wants Q₁ E) s:=by
 refine codeAny_of_tree ?_
 show wpAny _ A.in1 (checkBuiltinCall "set.__new__" ⟨[.type "set",a],[]⟩ >>= fun _=>again (.builtin "set.__new__" ⟨[.type "set",a],[]⟩)) _ _ s
 refine wpAny_bind (wpAny_of_eq (PySem.F.newCall_set_1 a) (wpAny_pure ⟨plainId_quiet PySem.F.plain_set_new _,codeAny_builtin PySem.F.entry_set_new ?_⟩))
 rw [Around.under_plainId PySem.F.plain_set_new _]
 unfold Builtin.«set.__new__» Builtin.Frozenset.newClass
 have hsub:=sub_set_self
 obtain ⟨hp,g,d,tk,os⟩:=s
 dsimp only
 wp_walk
 refine wpAny_askSetting (wpAny_pure ?_)
 dsimp only
 simp only [newObj]
 exact wpAny_bind (wpAny_alloc (wpAny_pure (wpAny_pure h)))
end
section
variable {prog:Program} {w:World} {A:Around} {R:Result->Shared->Prop} {I:Addr} {fp wr:List Addr} {G:Array GenState->Array GenState->Prop} {n:Nat} {P:Nat->Value->Prop} {St:Nat->Shared->Prop} {led:Bool}
theorem ziY (W:WalksS prog w A.in1 I fp wr G n P St) (S:Addr) (hSf:S∉fp) (val:Nat->Int) (hval:∀ i v,P i v->∃ t,v=.int (val i) t) (hb:n + 1 < scanBound):
  ∀ (k i:Nat) (s:Shared) (ns:List Int),n - i=k->i<=n->St i s->ISet prog w s.heap S led ns->ns.length<=i->(∀ x,x∈ns↔∃ j,j < i /\ val j=x)->
    (∀ s' ns',Moved (S :: wr) G s s'->ISet prog w s'.heap S led ns'->ns'.length<=n->(∀ x,x∈ns'↔∃ j,j < n /\ val j=x)->R (.ok (.ret .none)) s')->
    codeAny (model prog w) A (.builtin "set.update.loop" ⟨[.ref S,.ref I],[]⟩) R s:=by
 have hSw:S∉wr:=fun h=>hSf (W.sub _ h)
 have hsub:∀ b∈wr,b∈S :: wr:=fun b hb=>List.mem_cons_of_mem _ hb
 intro k
 induction k with
 | zero=>
   intro i s ns hk hi st hS hl hm hR
   have hin:i=n:=by omega
   subst hin
   refine codeAny_builtin PyProof.Rows.F.entry_set_update_loop ?_
   rw [Around.under_plainId PyProof.Rows.F.plain_set_update_loop _]
   show wpAny _ A.in1 (pyNext (.ref I) >>= _) _ _ s
   refine wpAny_bind (W.done s _ _ st fun s' mv=>?_)
   show wpAny _ A.in1 (ret Value.none) _ _ s'
   exact wpAny_pure (hR s' ns (mv.mono hsub) (hS.keeps fun o e=>mv.heap S o hSw e) hl hm)
 | succ k ih=>
   intro i s ns hk hi st hS hl hm hR
   have hlt:i < n:=by omega
   refine codeAny_builtin PyProof.Rows.F.entry_set_update_loop ?_
   rw [Around.under_plainId PyProof.Rows.F.plain_set_update_loop _]
   show wpAny _ A.in1 (pyNext (.ref I) >>= _) _ _ s
   refine wpAny_bind (W.item i s _ _ hlt st fun v s' hP st' mv=>?_)
   obtain ⟨t,rfl⟩:=hval i v hP
   have hS':ISet prog w s'.heap S led ns:=hS.keeps fun o e=>mv.heap S o hSw e
   show wpAny _ A.in1 (holding [Value.int (val i) t] (setAdd S (.int (val i) t)) >>= _) _ _ s'
   refine wpAny_bind (wpAny_holding ?_)
   unfold setAdd
   refine wpAny_holding (wpAny_bind ((intKind prog w).pyHash (k:=val i) (intKind_is _ _ _ _) ?_))
   refine ziP (s:={ s' with toks:=s'.toks + 1 }) hS' (by omega) fun h' ns' b sb S2 hm2 hl2=>?_
   refine wpAny_pure ⟨plainId_quiet PyProof.Rows.F.plain_set_update_loop _,ih (i + 1) _ ns' (by omega) hlt (W.frame _ s' _ _ st' (Nat.le_succ _) fun b hb o e=>?_) S2 (by omega) (fun x=>?_) fun s'' ns'' mv'' S3 l3 m3=>?_⟩
   ·rw [sb.2 b (fun z:b=S=>hSf (by rw [<- z]; exact hb))]; exact e
   ·rw [hm2,hm]
    constructor
    ·rintro (⟨j,hj,e⟩ | e)
     ·exact ⟨j,by omega,e⟩
     ·exact ⟨i,by omega,e.symm⟩
    ·rintro ⟨j,hj,e⟩
     by_cases hji:j=i
     ·subst hji; exact .inr e.symm
     ·exact .inl ⟨j,by omega,e⟩
   ·refine hR s'' ns'' (Moved.trans W.gtrans ((mv.mono hsub).then_heap (Nat.le_succ _) fun b o hb e=>?_) mv'') S3 l3 m3
    rw [sb.2 b (fun z:b=S=>hb (by rw [z]; exact List.mem_cons_self))]; exact e
end
section
variable {prog:Program} {w:World} {A:Around} {E:Value->Shared->Prop} {s:Shared}
structure RowSrc (prog:Program) (w:World) (h:Heap) (r:Addr) (items:Array Value) (T:String) (oI:Obj) (St:Addr->Nat->Heap->Prop):Prop where
 ty:∃ o,h.get? r=some o /\ o.cls=.type T
 sub1:isSubtype (.type T) (.type "set")=pure false
 sub2:isSubtype (.type T) (.type "frozenset")=pure false
 nd:(Value.type T == Value.type "dict")=false
 iter:∀ (A':Around) (s':Shared) (Q:Value->Shared->Prop) (E:Value->Shared->Prop),(∀ o,h.get? r=some o->s'.heap.get? r=some o)->Q (.ref s'.heap.objs.size) { s' with heap:=s'.heap.push oI }->wpAny (model prog w) A' (pyIter (.ref r)) Q E s'
 walk:∀ (A':Around) (I:Addr),A'.handled=none->r≠I->Walks prog w A' I [I,r] [I] items.size (fun i v=>items[i]?=some v) (St I)
 st:∀ h':Heap,(∀ o,h.get? r=some o->h'.get? r=some o)->St h'.objs.size 0 (h'.push oI)
theorem ziX {h:Heap} {l:Addr} {items:Array Value} (hl:h.IsList l items):RowSrc prog w h l items "list" { cls:=.type "list_iterator",data:=.fields #[.ref l,.int 0 0] } (fun I i h=>h.IsListIter I l i /\ h.IsList l items) where
 ty:=let ⟨o,e,c,_⟩:=hl; ⟨o,e,c⟩
 sub1:=PySem.F.sub_list_set
 sub2:=PySem.F.sub_list_frozenset
 nd:=by decide
 iter:=fun A' s' Q E k q=>wpAny_pyIter_list (hl.at k) q
 walk:=fun A' I hh hne=>Walks.list hh I l hne items
 st:=fun h' k=>⟨⟨_,Heap.get?_push_size _ rfl,rfl,rfl⟩,(hl.at k).push _⟩
theorem zhF {h:Heap} {l:Addr} {items:Array Value} (hl:h.IsTuple l items):RowSrc prog w h l items "tuple" { cls:=.type "tuple_iterator",data:=.fields #[.ref l,.int 0 0] } (fun I i h=>h.IsTupleIter I l i /\ h.IsTuple l items) where
 ty:=let ⟨o,e,c,_⟩:=hl; ⟨o,e,c⟩
 sub1:=by rw [isSubtype_type]; kernel_rfl
 sub2:=by rw [isSubtype_type]; kernel_rfl
 nd:=by decide
 iter:=fun A' s' Q E k q=>wpAny_pyIter_tuple (hl.at k) q
 walk:=fun A' I hh hne=>Walks.tuple hh I l hne items
 st:=fun h' k=>⟨⟨_,Heap.get?_push_size _ rfl,rfl,rfl⟩,(hl.at k).push _⟩
set_option maxHeartbeats 3200000 in
theorem zfs {r:Addr} {items:Array Value} {ms:List Int} {T:String} {oI:Obj} {St:Addr->Nat->Heap->Prop} {Q:Value->Shared->Prop} (hh:A.handled=none) (src:RowSrc prog w s.heap r items T oI St) (hi:IntsAre items.toList ms) (hb:items.size + 1 < scanBound)
  (h:∀ (h':Heap) (tk:Nat) (ns:List Int),ISet prog w h' s.heap.objs.size (ledOf w) ns->(∀ x,x∈ns↔x∈ms)->ns.length<=ms.length->(∀ b o,s.heap.get? b=some o->h'.get? b=some o)->Q (.ref s.heap.objs.size) { s with heap:=h',toks:=tk }):
  wpAny (model prog w) A (call (.type "set") [.ref r]) Q E s:=by
 obtain ⟨c,tl,hmro⟩:=PySem.F.called_set.mro
 have hmade:=PySem.F.called_set.made
 have hsub:=PySem.F.called_set.sub
 refine wpAny_call (codeAny_of_tree ?_)
 show wpAny _ _ (callAny (.type "set") _) _ _ _
 refine wpAny_pure ⟨Code.quiet_builtin _ (by decide +kernel),codeAny_builtin PySem.F.entry_type_call ?_⟩
 rw [Around.under_plain (weight_type_call_type "set" [.ref r] []) rfl]
 have h1:=PySem.F.called_set.notType
 have h2:=PySem.F.called_set.canCreate
 have hct:=PySem.F.typeCall_set_1 (.ref r)
 repeat (any_goals (first | assumption | wp_step))
 refine codeAny_mono (zkL (.ref r) (E:=E) (Q₁:=fun obj s₁=>obj=.ref s.heap.objs.size /\ s₁={ s with heap:=s.heap.push (bareSet w) }) ⟨rfl,rfl⟩) fun q s₁ hq=>?_
 cases q with
 | error e=>exact hq
 | ok fl=>
   cases fl with
   | ret obj=>
     obtain ⟨rfl,rfl⟩:=hq
     have hS:(s.heap.push (bareSet w)).get? s.heap.objs.size=some (bareSet w):=Heap.get?_push_size _ rfl
     have hT:Shared.TypeIs { s with heap:=s.heap.push (bareSet w) } (.ref s.heap.objs.size) "set":=⟨_,hS,rfl⟩
     have hli:=PySem.F.called_set.init.lookup
     have hbi:=PySem.F.called_set.init.bind (.ref s.heap.objs.size)
     repeat (any_goals (first | assumption | wp_step))
     refine codeAny_mono (codeAny_call_builtin (R:=wants (fun v s₂=>v=.none /\ ∃ h' tk ns,s₂={ s with heap:=h',toks:=tk } /\ ISet prog w h' s.heap.objs.size (ledOf w) ns /\ (∀ x,x∈ns↔x∈ms) /\ ns.length<=ms.length /\ ∀ b o,s.heap.get? b=some o->h'.get? b=some o) E)
      PySem.F.called_set.init.plain PySem.F.entry_set_init (check_set_init_1 hT ?_)) fun r₂ s₂ hr₂=>?_
     ·obtain ⟨orow,horow,hcl⟩:=src.ty
      obtain ⟨ocls,odict,odata,oslots⟩:=orow
      simp only at hcl
      subst hcl
      have hol':(s.heap.push (bareSet w)).get? r=some { cls:=.type T,dict:=odict,data:=odata,slots:=oslots }:=Heap.get?_push_of_some _ horow
      have hs1:=src.sub1
      have hs2:=src.sub2
      have hne:=src.nd
      unfold Builtin.«set.__init__» noKeywords Builtin.Frozenset.updateFrom
      generalize hPI:pyIter=PI
      wp_walk
      subst hPI
      refine src.iter _ _ _ _ (fun o e=>Heap.get?_push_of_some _ e) ?_
      refine wpAny_bind (wpAny_runValue ?_)
      have hrS:r < s.heap.objs.size:=Heap.lt_size horow
      have hh3:A.in1.in1.in1.handled=none:=by simp [hh]
      have hz:(s.heap.push (bareSet w)).objs.size=s.heap.objs.size + 1:=Heap.size_push _ _
      have hneI:r≠(s.heap.push (bareSet w)).objs.size:=by rw [hz]; exact Nat.ne_of_lt (Nat.lt_succ_of_lt hrS)
      have hSf:s.heap.objs.size∉[(s.heap.push (bareSet w)).objs.size,r]:=by
       rw [hz]; simp only [List.mem_cons,List.not_mem_nil,or_false,not_or]
       exact ⟨Nat.ne_of_lt (Nat.lt_succ_self _),Nat.ne_of_gt hrS⟩
      have hval:∀ (i:Nat) (v:Value),items[i]?=some v->∃ t,v=.int ((fun i=>ms.getD i 0) i) t:=fun i v hv=>IntsAre.int_at hi i v (by rw [Array.getElem?_toList]; exact hv)
      have hlen:ms.length=items.size:=by have:=(zaa.mp hi).2; rw [this]; simp
      refine ziY ((src.walk _ _ hh3 hneI).toS) s.heap.objs.size hSf (fun i=>ms.getD i 0) hval hb (items.size - 0) 0 _ [] (by omega) (Nat.zero_le _) (src.st _ fun o e=>Heap.get?_push_of_some _ e) (zig (Heap.get?_push_of_some _ hS)) (Nat.le_refl _) (fun x=>by simp) ?_
      intro s' ns' mv S' l' m'
      obtain ⟨h',g',d',tk',os'⟩:=s'
      have eg:g'=s.gens:=mv.gens
      have ed:d'=s.drawn:=mv.drawn
      have eo:os'=s.os:=mv.os
      subst eg ed eo
      show wpAny _ _ _ _ _ _
      refine wpAny_pure ?_
      show wpAny _ _ (ret Value.none) _ _ _
      refine wpAny_pure ⟨rfl,h',tk',ns',rfl,S',fun x=>?_,by omega,fun b o e=>?_⟩
      ·rw [m',<- hlen]
       constructor
       ·rintro ⟨j,hj,e⟩
        rw [List.getD_eq_getElem?_getD,List.getElem?_eq_getElem hj] at e
        rw [<- e]; exact List.getElem_mem hj
       ·intro hx
        obtain ⟨j,hj,e⟩:=List.getElem_of_mem hx
        exact ⟨j,hj,by rw [List.getD_eq_getElem?_getD,List.getElem?_eq_getElem hj]; exact e⟩
      ·have hb0:=Heap.lt_size e
       refine mv.heap b o ?_ (Heap.get?_push_of_some _ (Heap.get?_push_of_some _ e))
       rw [hz]
       simp only [List.mem_cons,List.not_mem_nil,or_false,not_or]
       exact ⟨Nat.ne_of_lt hb0,Nat.ne_of_lt (Nat.lt_succ_of_lt hb0)⟩
     ·cases r₂ with
      | error e=>exact hr₂
      | ok fl₂=>
        cases fl₂ with
        | ret v=>
          obtain ⟨rfl,h',tk,ns,rfl,S',m',l',k'⟩:=hr₂
          repeat (any_goals (first | assumption | wp_step))
          exact h _ _ ns S' m' l' k'
        | _=>exact hr₂.elim
   | _=>exact hq.elim
end
end LS
namespace LS
open PySem PyProof.Rows
set_option maxRecDepth 100000
theorem zx:Slot "set_iterator" "__next__" "set_iterator.__next__":=
 .of (owner:="set_iterator") (n:="__next__") (by rw [typeLookup_type,builtinLookup_eq_fast]; kernel_rfl) (by decide +kernel) (by decide +kernel) (by decide +kernel) (by first | exact .inl (by decide +kernel) | exact .inr (by decide +kernel)) (by rw [isSubtype_type]; kernel_rfl)
theorem zcl:Slot "set_iterator" "__iter__" "set_iterator.__iter__":=
 .of (owner:="set_iterator") (n:="__iter__") (by rw [typeLookup_type,builtinLookup_eq_fast]; kernel_rfl) (by decide +kernel) (by decide +kernel) (by decide +kernel) (by first | exact .inl (by decide +kernel) | exact .inr (by decide +kernel)) (by rw [isSubtype_type]; kernel_rfl)
theorem zaK:entryFor table "set_iterator.__next__"=some Builtin.«set_iterator.__next__»:=entryFor_of_tree (by kernel_rfl)
theorem zdy:entryFor table "set_iterator.__iter__"=some Builtin.«dict_keyiterator.__iter__»:=
 entryFor_alias (id':="dict_keyiterator.__iter__") (by kernel_rfl) (by first | rfl | decide +kernel | (unfold String.splitOn; simp +decide [String.splitOnAux])) (by decide +kernel) (by kernel_rfl)
theorem zcZ:entryFor table "set.__iter__"=some Builtin.«frozenset.__iter__»:=
 entryFor_alias (id':="frozenset.__iter__") (by kernel_rfl) (by first | rfl | decide +kernel | (unfold String.splitOn; simp +decide [String.splitOnAux])) (by decide +kernel) (by kernel_rfl)
theorem zfT:Manifest.owners.lookup (String.ofList ['r','o','t','a','r','e','t','i','_','t','e','s'].reverse)=some Manifest.sig_set_iterator:=by kernel_rfl
theorem za5 (a:Value):argsOk "set_iterator.__next__" ⟨[a],[]⟩:=by
 unfold argsOk; rw [signature?_of (id:="set_iterator.__next__") (n:=['_','_','t','x','e','n','_','_']) (o:=['r','o','t','a','r','e','t','i','_','t','e','s']) (by kernel_rfl) zfT]; kernel_rfl
theorem zeq (a:Value):argsOk "set_iterator.__iter__" ⟨[a],[]⟩:=by
 unfold argsOk; rw [signature?_of (id:="set_iterator.__iter__") (n:=['_','_','r','e','t','i','_','_']) (o:=['r','o','t','a','r','e','t','i','_','t','e','s']) (by kernel_rfl) zfT]; kernel_rfl
noncomputable def IsSI (h:Heap) (it a:Addr) (first:Value) (i n ep:Nat):Prop:=∃ o,h.get? it=some o /\ o.cls=.type "set_iterator" /\ o.data=.fields #[first,.int i 0,.ref a,.int n 0,.int ep 0]
section
variable {prog:Program} {w:World} {A:Around} {E:Value->Shared->Prop} {s:Shared} {it a:Addr} {first:Value} {i n ep:Nat}
theorem IsSI.at {h h':Heap} (x:IsSI h it a first i n ep) (k:∀ o,h.get? it=some o->h'.get? it=some o):IsSI h' it a first i n ep:=let ⟨o,e,r⟩:=x; ⟨o,k o e,r⟩
theorem IsSI.typeIs (x:IsSI s.heap it a first i n ep):s.TypeIs (.ref it) "set_iterator":=let ⟨o,e,c,_⟩:=x; ⟨o,e,c⟩
noncomputable def SetAt (h:Heap) (a:Addr) (es:Array (Int×Value)) (ep:Nat) (t:SetTable):Prop:=∃ o,h.get? a=some o /\ o.ExactSet /\ o.data=.set es ep t
theorem SetAt.at {h h':Heap} {es:Array (Int×Value)} {t:SetTable} (x:SetAt h a es ep t) (k:∀ o,h.get? a=some o->h'.get? a=some o):SetAt h' a es ep t:=let ⟨o,e,r⟩:=x; ⟨o,k o e,r⟩
theorem zeR (hit:IsSI s.heap it a first i n ep) {Q:Value->Shared->Prop} (h:Q (.ref it) s):wpAny (model prog w) A (pyIter (.ref it)) Q E s:=by
 refine wpAny_pyIter_slot hit.typeIs zcl (wpAny_call_entry zcl hit.typeIs zdy ?_ (zeq _))
 show wpAny _ _ (ret (.ref it)) _ _ s
 exact wpAny_pure ⟨_,rfl,"set_iterator",_,hit.typeIs,zx.lookup,h⟩
variable {es:Array (Int×Value)} {t:SetTable} {slot:Nat}
theorem zin {x:Value} {next:Nat} {Q:Option Value->Shared->Prop} (hit:IsSI s.heap it a (.int slot 0) i n ep) (hS:SetAt s.heap a es ep t) (hf:t.fits es.size=true) (hn:es.size=n)
  (hx:∀ (A':Around) (Q':Option (Value×Nat)->Shared->Prop) (E':Value->Shared->Prop),Q' (some (x,next)) s->wpAny (model prog w) A' (setNext a slot i ep) Q' E' s)
  (hQ:∀ h',IsSI h' it a (.int next 0) (i + 1) n ep->Heap.SameBut it s.heap h'->Q (some x) { s with heap:=h' }):wpAny (model prog w) A (pyNext (.ref it)) Q E s:=by
 obtain ⟨o,ho,hc,hd⟩:=id hit
 obtain ⟨os,hos,hex,hds⟩:=id hS
 unfold pyNext
 refine wpAny_bind (wpAny_attempt (wpAny_callSpecial?_slot (name:=Str.ofString "__next__") hit.typeIs zx (wpAny_call_entry zx hit.typeIs zaK ?_ (za5 _))))
 unfold Builtin.«set_iterator.__next__»
 refine wpAny_bind (wpAny_pure ?_)
 dsimp only
 refine wpAny_bind (wpAny_fieldsOf ho hd ?_)
 dsimp only
 refine wpAny_bind (wpAny_setEntries_of hos hds hf ?_)
 rw [if_neg (by rw [hn]; simp)]
 refine wpAny_bind ?_
 simp only [Int.toNat_natCast]
 refine hx _ _ _ ?_
 dsimp only
 refine wpAny_bind (wpAny_setField ho hd (by simp) ?_)
 have e1:=Heap.get?_update_self (Obj.mapFields (·.setIfInBounds 0 (rawInt next))) ho (Obj.isFreed_of_fields (Obj.data_mapFields hd _))
 have d1:=Obj.data_mapFields hd (·.setIfInBounds 0 (rawInt next))
 refine wpAny_bind (wpAny_setField e1 d1 (by simp) ?_)
 refine wpAny_pure ⟨x,rfl,wpAny_pure (hQ _ ?_ ((Heap.SameBut.update ..).trans (Heap.SameBut.update ..)))⟩
 refine ⟨_,Heap.get?_update_self _ e1 (Obj.isFreed_of_fields (Obj.data_mapFields d1 _)),?_,?_⟩
 ·rw [Obj.cls_mapFields,Obj.cls_mapFields]; exact hc
 ·rw [Obj.data_mapFields d1]; simp [rawInt]
theorem zjU {Q:Option Value->Shared->Prop} (hh:A.handled=none) (hit:IsSI s.heap it a (.int slot 0) i n ep) (hS:SetAt s.heap a es ep t) (hf:t.fits es.size=true) (hn:es.size=n)
  (hx:∀ (A':Around) (Q':Option (Value×Nat)->Shared->Prop) (E':Value->Shared->Prop),Q' none s->wpAny (model prog w) A' (setNext a slot i ep) Q' E' s)
  (hQ:∀ h',Heap.ExtBut it s.heap h'->Q none { s with heap:=h' }):wpAny (model prog w) A (pyNext (.ref it)) Q E s:=by
 obtain ⟨o,ho,hc,hd⟩:=id hit
 obtain ⟨os,hos,hex,hds⟩:=id hS
 unfold pyNext
 refine wpAny_bind (wpAny_attempt (wpAny_callSpecial?_slot (name:=Str.ofString "__next__") hit.typeIs zx (wpAny_call_entry zx hit.typeIs zaK ?_ (za5 _))))
 unfold Builtin.«set_iterator.__next__»
 refine wpAny_bind (wpAny_pure ?_)
 dsimp only
 refine wpAny_bind (wpAny_fieldsOf ho hd ?_)
 dsimp only
 refine wpAny_bind (wpAny_setEntries_of hos hds hf ?_)
 rw [if_neg (by rw [hn]; simp)]
 refine wpAny_bind ?_
 simp only [Int.toNat_natCast]
 refine hx _ _ _ ?_
 dsimp only
 refine wpAny_bind (wpAny_setField ho hd (by simp) ?_)
 refine wpAny_bind ?_
 simp only [newExc,newTuple]
 refine wpAny_bind (wpAny_newObj_type ?_ (by size_fits))
 refine wpAny_bind (m:=firstArgMember _ _) (wpAny_of_eq (a:=Value.none) (by first | rfl | (simp only [firstArgMember]; rfl)) ?_)
 refine wpAny_newObj_type ?_ (by size_fits)
 simp only [raiseNew]
 refine wpAny_bind (wpAny_handled ?_)
 first | rw [show A.in1.handled=none from hh] | rw [hh]
 refine wpAny_bind (wpAny_pure (wpAny_throw ?_))
 refine wpAny_bind (wpAny_isInstance (T:="StopIteration") (b:=true) ⟨_,Heap.get?_push_size _ rfl,rfl⟩ isSubtype_stop ?_)
 exact wpAny_pure (hQ _ (((Heap.SameBut.update ..).extBut.push _).push _))
theorem ziB {x:Value} {pl:Nat} {tp:Addr} {ps:Array Value} {hsh:Int} {Q:Option Value->Shared->Prop} (hit:IsSI s.heap it a (.ref tp) i n ep) (ht:s.heap.IsTuple tp ps) (hS:SetAt s.heap a es ep t) (hf:t.fits es.size=true) (hn:es.size=n)
  (hp:ps[i]?=some (.int pl 0)) (hx:es[pl]?=some (hsh,x))
  (hQ:∀ h',IsSI h' it a (.ref tp) (i + 1) n ep->Heap.SameBut it s.heap h'->Q (some x) { s with heap:=h' }):wpAny (model prog w) A (pyNext (.ref it)) Q E s:=by
 obtain ⟨o,ho,hc,hd⟩:=id hit
 obtain ⟨os,hos,hex,hds⟩:=id hS
 obtain ⟨ot,hot,_,nt,hdt⟩:=ht
 unfold pyNext
 refine wpAny_bind (wpAny_attempt (wpAny_callSpecial?_slot (name:=Str.ofString "__next__") hit.typeIs zx (wpAny_call_entry zx hit.typeIs zaK ?_ (za5 _))))
 unfold Builtin.«set_iterator.__next__»
 refine wpAny_bind (wpAny_pure ?_)
 dsimp only
 refine wpAny_bind (wpAny_fieldsOf ho hd ?_)
 dsimp only
 refine wpAny_bind (wpAny_setEntries_of hos hds hf ?_)
 rw [if_neg (by rw [hn]; simp)]
 refine wpAny_bind (wpAny_seqItems hot hdt ?_)
 dsimp only
 simp only [Int.toNat_natCast,hp]
 refine wpAny_bind ?_
 unfold setNextDrawn
 refine wpAny_bind (wpAny_setState_of hos hds hf ?_)
 dsimp only
 rw [if_neg (by simp)]
 simp only [hx]
 refine wpAny_pure ?_
 refine wpAny_bind (wpAny_setField ho hd (by simp) ?_)
 refine wpAny_pure ⟨x,rfl,wpAny_pure (hQ _ ?_ (Heap.SameBut.update ..))⟩
 refine ⟨_,Heap.get?_update_self _ ho (Obj.isFreed_of_fields (Obj.data_mapFields hd _)),?_,?_⟩
 ·rw [Obj.cls_mapFields]; exact hc
 ·rw [Obj.data_mapFields hd]; simp [rawInt]
theorem zk6 {tp:Addr} {ps:Array Value} {Q:Option Value->Shared->Prop} (hh:A.handled=none) (hit:IsSI s.heap it a (.ref tp) i n ep) (ht:s.heap.IsTuple tp ps) (hS:SetAt s.heap a es ep t) (hf:t.fits es.size=true) (hn:es.size=n)
  (hp:ps[i]?=none) (hQ:∀ h',Heap.ExtBut it s.heap h'->Q none { s with heap:=h' }):wpAny (model prog w) A (pyNext (.ref it)) Q E s:=by
 obtain ⟨o,ho,hc,hd⟩:=id hit
 obtain ⟨os,hos,hex,hds⟩:=id hS
 obtain ⟨ot,hot,_,nt,hdt⟩:=ht
 unfold pyNext
 refine wpAny_bind (wpAny_attempt (wpAny_callSpecial?_slot (name:=Str.ofString "__next__") hit.typeIs zx (wpAny_call_entry zx hit.typeIs zaK ?_ (za5 _))))
 unfold Builtin.«set_iterator.__next__»
 refine wpAny_bind (wpAny_pure ?_)
 dsimp only
 refine wpAny_bind (wpAny_fieldsOf ho hd ?_)
 dsimp only
 refine wpAny_bind (wpAny_setEntries_of hos hds hf ?_)
 rw [if_neg (by rw [hn]; simp)]
 refine wpAny_bind (wpAny_seqItems hot hdt ?_)
 dsimp only
 simp only [Int.toNat_natCast,hp]
 refine wpAny_bind (wpAny_setField ho hd (by simp) ?_)
 have e1:=Heap.get?_update_self (Obj.mapFields (·.setIfInBounds 0 (rawInt 0))) ho (Obj.isFreed_of_fields (Obj.data_mapFields hd _))
 have d1:=Obj.data_mapFields hd (·.setIfInBounds 0 (rawInt 0))
 refine wpAny_bind (wpAny_setField e1 d1 (by simp) ?_)
 refine wpAny_bind ?_
 simp only [newExc,newTuple]
 refine wpAny_bind (wpAny_newObj_type ?_ (by size_fits))
 refine wpAny_bind (m:=firstArgMember _ _) (wpAny_of_eq (a:=Value.none) (by first | rfl | (simp only [firstArgMember]; rfl)) ?_)
 refine wpAny_newObj_type ?_ (by size_fits)
 simp only [raiseNew]
 refine wpAny_bind (wpAny_handled ?_)
 first | rw [show A.in1.handled=none from hh] | rw [hh]
 refine wpAny_bind (wpAny_pure (wpAny_throw ?_))
 refine wpAny_bind (wpAny_isInstance (T:="StopIteration") (b:=true) ⟨_,Heap.get?_push_size _ rfl,rfl⟩ isSubtype_stop ?_)
 exact wpAny_pure (hQ _ ((((Heap.SameBut.update ..).trans (Heap.SameBut.update ..)).extBut.push _).push _))
theorem zdm (hS:SetAt s.heap a es ep t) (hf:t.fits es.size=true) (hw:w.params.followText "set-order"=false) (hl:t.led=true) (hp:(!t.plain && decide (es.size > 1))=false) {Q:Option (Value×Nat)->Shared->Prop}
  (h:Q (match es[SetTable.below t.place slot]?,t.place[SetTable.below t.place slot]? with | some (_,x),some j=>some (x,j + 1) | _,_=>none) s):wpAny (model prog w) A (setNext a slot i ep) Q E s:=by
 obtain ⟨o,ho,_,hd⟩:=hS
 unfold setNext
 refine wpAny_bind (wpAny_setState_of ho hd hf ?_)
 dsimp only
 refine wpAny_bind ?_
 unfold setsByText
 refine wpAny_bind (wpAny_askSetting (wpAny_pure ?_))
 show wpAny _ _ (if w.params.followText "set-order"=true then _ else _) _ _ _
 rw [hw,if_neg Bool.false_ne_true]
 show wpAny _ _ (if (!t.plain && decide (es.size > 1))=true then _ else _) _ _ _
 rw [hp,if_neg Bool.false_ne_true]
 refine wpAny_bind ?_
 show wpAny _ _ (if (!t.led && !es.isEmpty)=true then _ else _) _ _ _
 rw [hl,if_neg (by simp)]
 exact wpAny_pure (wpAny_pure h)
theorem zdX (hS:SetAt s.heap a es ep t) (hf:t.fits es.size=true) (hw:w.params.followText "set-order"=true) {Q:Option (Value×Nat)->Shared->Prop}
  (h:Q (((pickOrder (w.params.setOrder a ep) es)[i]?).map fun e=>(e.2,slot)) s):wpAny (model prog w) A (setNext a slot i ep) Q E s:=by
 obtain ⟨o,ho,_,hd⟩:=hS
 unfold setNext
 refine wpAny_bind (wpAny_setState_of ho hd hf ?_)
 dsimp only
 refine wpAny_bind ?_
 unfold setsByText
 refine wpAny_bind (wpAny_askSetting (wpAny_pure ?_))
 show wpAny _ _ (if w.params.followText "set-order"=true then _ else _) _ _ _
 rw [hw,if_pos rfl]
 rw [if_neg (by simp)]
 refine wpAny_bind ?_
 unfold setWalk
 refine wpAny_bind (wpAny_setState_of ho hd hf ?_)
 dsimp only
 refine wpAny_bind ?_
 unfold setsByText
 refine wpAny_bind (wpAny_askSetting (wpAny_pure ?_))
 show wpAny _ _ (if w.params.followText "set-order"=true then _ else _) _ _ _
 rw [hw,if_pos rfl]
 exact wpAny_bind (wpAny_askSetting (wpAny_pure (wpAny_pure h)))
end
end LS
namespace LS
open PySem PySem.Spec PyProof.Rows
theorem zcc {α:Type}:∀ {l:List α} {i:Nat} (h:i < l.length),(l[i] :: l.eraseIdx i).Perm l
 | x :: l,0,_=>by simp
 | x :: l,i + 1,h=>by
   have h':i < l.length:=by simpa using h
   have:=zcc h'
   simp only [List.getElem_cons_succ,List.eraseIdx_cons_succ]
   exact (List.Perm.swap _ _ _).trans (List.Perm.cons _ this)
theorem zhE {α:Type} (next:Nat->Nat):∀ (fuel k:Nat) (left:List α) (out:Array α),left.length=fuel->(pickOrder.go next fuel k left out).toList.Perm (out.toList ++ left)
 | 0,k,left,out,h=>by
   have:left=[]:=List.length_eq_zero_iff.mp h
   subst this
   rw [pickOrder.go,List.append_nil]
 | fuel + 1,k,left,out,h=>by
   rw [pickOrder.go]
   have hl:next k % left.length < left.length:=Nat.mod_lt _ (by omega)
   rw [List.getElem?_eq_getElem hl]
   dsimp only
   refine (zhE next fuel (k + 1) _ _ (by rw [List.length_eraseIdx_of_lt hl]; omega)).trans ?_
   rw [Array.toList_push,List.append_assoc]
   exact List.Perm.append_left _ (zcc hl)
theorem zgY {α:Type} (next:Nat->Nat) (xs:Array α):(pickOrder next xs).toList.Perm xs.toList:=by
 have:=zhE next xs.size 0 xs.toList #[] (by simp)
 simpa [pickOrder] using this
section
variable {prog:Program} {w:World} {A:Around} {E:Value->Shared->Prop} {s:Shared} {it a:Addr} {first:Value} {i n ep:Nat} {es:Array (Int×Value)} {t:SetTable}
theorem zgF {M:Model} {src:Source} {Q:Nat->Shared->Prop} (hn:n≠0) (h:∀ i d',i < n->Q i { s with drawn:=d' }):wpAny M A (choose src n) Q E s:=
 fun _ _ _=>⟨hn,h _ _ (Nat.mod_lt _ (Nat.pos_of_ne_zero hn))⟩
theorem zc7 {α:Type} {M:Model}:∀ (n:Nat) (xs:List α) (s:Shared) (Q:List α->Shared->Prop),xs.length=n->(∀ ys d',ys.Perm xs->Q ys { s with drawn:=d' })->wpAny M A (drawOrder n xs) Q E s
 | 0,xs,s,Q,hl,h=>by
   have e:xs=[]:=List.length_eq_zero_iff.mp hl
   subst e
   rw [drawOrder]
   exact wpAny_pure (h [] s.drawn (.refl _))
 | n + 1,[],s,Q,hl,h=>by cases hl
 | n + 1,x :: xs,s,Q,hl,h=>by
   rw [drawOrder]
   rotate_left
   ·intro z; cases z
   refine wpAny_bind (zgF (by simp) fun i d' hi=>?_)
   rw [List.getElem?_eq_getElem hi]
   dsimp only
   refine wpAny_bind (zc7 n _ _ _ (by rw [List.length_eraseIdx_of_lt hi]; simp at hl ⊢; omega) fun ys d2 hp=>wpAny_pure ?_)
   refine h _ d2 ?_
   exact (List.Perm.cons _ hp).trans (zcc hi)
theorem zgX {I:Addr} (hf:t.fits es.size=true) (hw:w.params.followText "set-order"=true) (hne:a≠I) (hh:A.handled=none):
  Walks prog w A I [I,a] [I] (pickOrder (w.params.setOrder a ep) es).size (fun i v=>((pickOrder (w.params.setOrder a ep) es).toList.map (·.2))[i]?=some v) (fun i h=>IsSI h I a (.int (0:Nat) 0) i es.size ep /\ SetAt h a es ep t) where
 sub:=fun b hb=>by simp at hb; simp [hb]
 frame:=fun _ _ _ st hk=>⟨st.1.at fun o e=>hk I (by simp) o e,st.2.at fun o e=>hk a (by simp) o e⟩
 item:=fun i s Q E hi st hQ=>by
  refine zin (x:=((pickOrder (w.params.setOrder a ep) es)[i]).2) (next:=0) st.1 st.2 hf rfl (fun A' Q' E' q=>zdX st.2 hf hw (by rw [Array.getElem?_eq_getElem hi]; exact q)) fun h' hit' hs'=>?_
  exact hQ _ h' s.toks (by simp [hi]) ⟨hit',st.2.at fun o e=>hs'.extBut a o hne e⟩ fun b o hb e=>hs'.extBut b o (fun h=>hb (by simp [h])) e
 done:=fun s Q E st hQ=>zjU hh st.1 st.2 hf rfl (fun A' Q' E' q=>zdX st.2 hf hw (by rw [Array.getElem?_eq_none (by simp)]; exact q)) fun h' he'=>hQ h' s.toks fun b o hb e=>he' b o (fun h=>hb (by simp [h])) e
 self:=fun _ _ _ _ st hQ=>zeR st.1 hQ
theorem zgq {I:Addr} (hf:t.fits es.size=true) (hw:w.params.followText "set-order"=false) (hl:t.led=true) (hp:(!t.plain && decide (es.size > 1))=false) (hr:Ris t.place.toList) (hne:a≠I) (hh:A.handled=none):
  Walks prog w A I [I,a] [I] es.size (fun i v=>(es.toList.map (·.2))[i]?=some v)
   (fun i h=>∃ slot:Nat,IsSI h I a (.int slot 0) i es.size ep /\ SetAt h a es ep t /\ (∀ k,k < i->t.place.getD k 0 < slot) /\ ∀ k,i<=k->k < t.place.size->slot<=t.place.getD k 0) where
 sub:=fun b hb=>by simp at hb; simp [hb]
 frame:=fun _ _ _ ⟨slot,st1,st2,st3⟩ hk=>⟨slot,st1.at fun o e=>hk I (by simp) o e,st2.at fun o e=>hk a (by simp) o e,st3⟩
 item:=fun i s Q E hi ⟨slot,st1,st2,st3,st4⟩ hQ=>by
  have hz:t.place.size=es.size:=by simp only [SetTable.fits,Bool.and_eq_true,beq_iff_eq] at hf; exact hf.1
  have hb:SetTable.below t.place slot=i:=zdM hr (by omega) st3 st4
  have hpl:t.place[i]?=some (t.place.getD i 0):=by rw [Array.getElem?_eq_getElem (by omega)]; simp [Array.getD,hz,hi]
  refine zin (x:=es[i].2) (next:=t.place.getD i 0 + 1) st1 st2 hf rfl (fun A' Q' E' q=>zdm st2 hf hw hl hp (by rw [hb,Array.getElem?_eq_getElem hi,hpl]; exact q)) fun h' hit' hs'=>?_
  refine hQ _ h' s.toks (by simp [hi]) ⟨_,hit',st2.at fun o e=>hs'.extBut a o hne e,fun k hk=>?_,fun k h1 h2=>?_⟩ fun b o hb e=>hs'.extBut b o (fun h=>hb (by simp [h])) e
  ·by_cases hki:k=i
   ·rw [hki]; omega
   ·have:=zb2 hr (show k < i by omega) (by omega) 0 0
    omega
  ·have:=zb2 hr (show i < k by omega) h2 0 0
   omega
 done:=fun s Q E ⟨slot,st1,st2,st3,st4⟩ hQ=>by
  have hz:t.place.size=es.size:=by simp only [SetTable.fits,Bool.and_eq_true,beq_iff_eq] at hf; exact hf.1
  have hb:SetTable.below t.place slot=es.size:=zdM hr (by omega) st3 st4
  exact zjU hh st1 st2 hf rfl (fun A' Q' E' q=>zdm st2 hf hw hl hp (by rw [hb,Array.getElem?_eq_none (Nat.le_refl _)]; exact q)) fun h' he'=>hQ h' s.toks fun b o hb e=>he' b o (fun h=>hb (by simp [h])) e
 self:=fun _ _ _ _ ⟨slot,st1,_⟩ hQ=>zeR st1 hQ
theorem zgg {I tp:Addr} {ys:List Nat} (hf:t.fits es.size=true) (hy:ys.Perm (List.range es.size)) (hne:a≠I) (hnt:tp≠I) (hh:A.handled=none):
  Walks prog w A I [I,a,tp] [I] es.size (fun i v=>(ys.map fun p=>(es.getD p (0,Value.none)).2)[i]?=some v) (fun i h=>IsSI h I a (.ref tp) i es.size ep /\ h.IsTuple tp (ys.map fun p:Nat=>rawInt p).toArray /\ SetAt h a es ep t) where
 sub:=fun b hb=>by simp at hb; simp [hb]
 frame:=fun _ _ _ st hk=>⟨st.1.at fun o e=>hk I (by simp) o e,st.2.1.at fun o e=>hk tp (by simp) o e,st.2.2.at fun o e=>hk a (by simp) o e⟩
 item:=fun i s Q E hi st hQ=>by
  have hyl:ys.length=es.size:=by rw [hy.length_eq]; simp
  have hp:ys[i] < es.size:=List.mem_range.mp (hy.mem_iff.mp (List.getElem_mem (by omega)))
  refine ziB (x:=es[ys[i]].2) (pl:=ys[i]) (hsh:=es[ys[i]].1) st.1 st.2.1 st.2.2 hf rfl (by simp [hyl,hi,rawInt]) (by rw [Array.getElem?_eq_getElem hp]) fun h' hit' hs'=>?_
  refine hQ _ h' s.toks ?_ ⟨hit',st.2.1.at fun o e=>hs'.extBut tp o hnt e,st.2.2.at fun o e=>hs'.extBut a o hne e⟩ fun b o hb e=>hs'.extBut b o (fun h=>hb (by simp [h])) e
  rw [List.getElem?_map,List.getElem?_eq_getElem (by omega)]
  simp [Array.getD,hp]
 done:=fun s Q E st hQ=>by
  have hyl:ys.length=es.size:=by rw [hy.length_eq]; simp
  exact zk6 hh st.1 st.2.1 st.2.2 hf rfl (by simp [hyl]) fun h' he'=>hQ h' s.toks fun b o hb e=>he' b o (fun h=>hb (by simp [h])) e
 self:=fun _ _ _ _ st hQ=>zeR st.1 hQ
theorem zjy {Q:Value->Shared->Prop} (hS:SetAt s.heap a es ep t) (hf:t.fits es.size=true) (hr:Ris t.place.toList) (hl:t.led=ledOf w) (hz:es.size<=sizeLine)
  (h:∀ (I:Addr) (fp:List Addr) (ord:List Value) (St:Nat->Heap->Prop) (h1:Heap) (d1:Drawn),ord.Perm (es.toList.map (·.2))->(∀ A':Around,A'.handled=none->Walks prog w A' I fp [I] ord.length (fun i v=>ord[i]?=some v) St)->St 0 h1->
   (∀ b o,s.heap.get? b=some o->h1.get? b=some o)->s.heap.objs.size<=I->(∀ b∈fp,b=a \/ s.heap.objs.size<=b)->Q (.ref I) { s with heap:=h1,drawn:=d1 }):wpAny (model prog w) A (pyIter (.ref a)) Q E s:=by
 obtain ⟨o,ho,hex,hd⟩:=id hS
 have hT:s.TypeIs (.ref a) "set":=⟨o,ho,hex.1⟩
 have hlt:=Heap.lt_size ho
 refine wpAny_pyIter_slot hT PySem.F.slot_set_iter (wpAny_call_entry PySem.F.slot_set_iter hT zcZ ?_ (PySem.F.args_set_iter_1 _))
 unfold Builtin.«frozenset.__iter__»
 refine wpAny_bind (wpAny_pure ?_)
 refine wpAny_bind ?_
 unfold Builtin.Frozenset.sizeOf
 refine wpAny_bind (wpAny_setEntries_of ho hd hf (wpAny_pure ?_))
 refine wpAny_bind ?_
 unfold setDrawn
 refine wpAny_bind (wpAny_setState_of ho hd hf ?_)
 dsimp only
 refine wpAny_bind ?_
 unfold setsByText
 refine wpAny_bind (wpAny_askSetting (wpAny_pure (wpAny_pure ?_)))
 show wpAny _ _ (if (!w.params.followText "set-order" && (!t.plain && decide (es.size > 1)))=true then _ else _) _ _ _
 have slots:∀ {ord:List Value} (St:Addr->Nat->Heap->Prop),ord.Perm (es.toList.map (·.2))->(∀ (A':Around) (I:Addr),a≠I->A'.handled=none->Walks prog w A' I [I,a] [I] ord.length (fun i v=>ord[i]?=some v) (St I))->
   (∀ h' I,IsSI h' I a (.int (0:Nat) 0) 0 es.size ep->SetAt h' a es ep t->St I 0 h')->Q (.ref s.heap.objs.size) { s with heap:=s.heap.push { cls:=.type "set_iterator",data:=.fields #[.int (0:Nat) 0,.int (0:Nat) 0,.ref a,.int (es.size:Nat) 0,.int (ep:Nat) 0] } }:=by
  intro ord St hp hW hst
  have hne:a≠s.heap.objs.size:=Nat.ne_of_lt hlt
  exact h s.heap.objs.size [s.heap.objs.size,a] ord (St s.heap.objs.size) _ s.drawn hp (fun A' hh=>hW A' _ hne hh) (hst _ _ ⟨_,Heap.get?_push_size _ rfl,rfl,rfl⟩ (hS.at fun o e=>Heap.get?_push_of_some _ e)) (fun b o e=>Heap.get?_push_of_some _ e) (Nat.le_refl _)
   fun b hb=>by
    rcases List.mem_cons.mp hb with z | z
    ·exact .inr (by rw [z]; exact Nat.le_refl _)
    ·exact .inl (by simpa using z)
 by_cases hdr:(!w.params.followText "set-order" && (!t.plain && decide (es.size > 1)))=true
 ·rw [if_pos hdr]
  refine wpAny_bind (zc7 _ _ _ _ (by simp) fun ys d' hy=>?_)
  refine wpAny_bind (wpAny_newTuple ?_ (by rw [List.length_map,hy.length_eq]; simpa using hz))
  have hT1:(s.heap.push { cls:=.type "tuple",data:=.seq (ys.map fun p:Nat=>rawInt p).toArray }).IsTuple s.heap.objs.size (ys.map fun p:Nat=>rawInt p).toArray:=⟨_,Heap.get?_push_size _ rfl,rfl,_,rfl⟩
  have hS1:=hS.at (h':=s.heap.push { cls:=.type "tuple",data:=.seq (ys.map fun p:Nat=>rawInt p).toArray }) fun o e=>Heap.get?_push_of_some _ e
  obtain ⟨o1,ho1,_,hd1⟩:=id hS1
  refine wpAny_bind (wpAny_setEpoch_of ho1 hd1 hf ?_)
  have hs1:(s.heap.push { cls:=.type "tuple",data:=.seq (ys.map fun p:Nat=>rawInt p).toArray }).objs.size=s.heap.objs.size + 1:=Heap.size_push _ _
  refine wpAny_bind (wpAny_newObj_type (wpAny_pure ⟨_,rfl,"set_iterator",_,⟨_,Heap.get?_push_size _ rfl,rfl⟩,zx.lookup,?_⟩))
  have hy2:(ys.map fun p=>(es.getD p (0,Value.none)).2).Perm (es.toList.map (·.2)):=by
   refine (hy.map _).trans ?_
   have e:(List.range es.size).map (fun p=>(es.getD p (0,Value.none)).2)=es.toList.map (·.2):=by
    refine List.ext_getElem (by simp) fun i h1 h2=>?_
    simp at h1
    simp [Array.getD,h1]
   rw [e]
  have hol:(ys.map fun p=>(es.getD p (0,Value.none)).2).length=es.size:=by rw [List.length_map,hy.length_eq]; simp
  refine h (s.heap.push { cls:=.type "tuple",data:=.seq (ys.map fun p:Nat=>rawInt p).toArray }).objs.size [_,a,s.heap.objs.size] _ (fun i h=>IsSI h (s.heap.push { cls:=.type "tuple",data:=.seq (ys.map fun p:Nat=>rawInt p).toArray }).objs.size a (.ref s.heap.objs.size) i es.size ep /\ h.IsTuple s.heap.objs.size (ys.map fun p:Nat=>rawInt p).toArray /\ SetAt h a es ep t) _ d' hy2 (fun A' hh=>by rw [hol]; exact zgg (t:=t) (ep:=ep) hf hy (by rw [hs1]; exact Nat.ne_of_lt (Nat.lt_succ_of_lt hlt)) (by rw [hs1]; exact Nat.ne_of_lt (Nat.lt_succ_self _)) hh)
   ⟨⟨_,Heap.get?_push_size _ rfl,rfl,by simp [rawInt]⟩,hT1.push _,hS1.at fun o e=>Heap.get?_push_of_some _ e⟩ (fun b o e=>Heap.get?_push_of_some _ (Heap.get?_push_of_some _ e)) (by rw [hs1]; exact Nat.le_succ _) fun b hb=>?_
  simp only [List.mem_cons,List.not_mem_nil,or_false] at hb
  rcases hb with z | z | z
  ·exact .inr (by rw [z,hs1]; exact Nat.le_succ _)
  ·exact .inl z
  ·exact .inr (by rw [z]; exact Nat.le_refl _)
 ·rw [if_neg hdr]
  refine wpAny_bind (wpAny_pure ?_)
  refine wpAny_bind (wpAny_setEpoch_of ho hd hf ?_)
  refine wpAny_bind (wpAny_newObj_type (wpAny_pure ⟨_,rfl,"set_iterator",_,⟨_,Heap.get?_push_size _ rfl,rfl⟩,zx.lookup,?_⟩))
  cases hw:w.params.followText "set-order" with
  | true=>
    have hpz:((pickOrder (w.params.setOrder a ep) es).toList.map (·.2)).length=(pickOrder (w.params.setOrder a ep) es).size:=by simp
    exact slots (ord:=(pickOrder (w.params.setOrder a ep) es).toList.map (·.2)) (fun I i h=>IsSI h I a (.int (0:Nat) 0) i es.size ep /\ SetAt h a es ep t) ((zgY _ _).map _) (fun A' I hne hh=>by rw [hpz]; exact zgX hf hw hne hh) fun h' I x y=>⟨x,y⟩
  | false=>
    rw [hw] at hdr
    have hpl:(!t.plain && decide (es.size > 1))=false:=by simpa using hdr
    have hle:t.led=true:=by rw [hl]; simp [ledOf,hw]
    have hpz:(es.toList.map (·.2)).length=es.size:=by simp
    refine slots (ord:=es.toList.map (·.2)) (fun I i h=>∃ slot:Nat,IsSI h I a (.int slot 0) i es.size ep /\ SetAt h a es ep t /\ (∀ k,k < i->t.place.getD k 0 < slot) /\ ∀ k,i<=k->k < t.place.size->slot<=t.place.getD k 0) (.refl _)
     (fun A' I hne hh=>by rw [hpz]; exact zgq hf hw hle hpl hr hne hh) fun h' I x y=>⟨0,x,y,fun k hk=>by omega,fun k _ _=>Nat.zero_le _⟩
end
end LS
namespace LS
open PySem PySem.Spec PySem.Calls PyProof.Rows
section
variable {prog:Program} {w:World} {A:Around} {E:Value->Shared->Prop} {s:Shared} {a:Addr} {ns:List Int}
theorem zjA {Q:Bool->Shared->Prop} (hT:s.TypeIs (.ref a) "set") (h:Q false s):wpAny (model prog w) A (Builtin.List.listLengthHint (.ref a)) Q E s:=by
 unfold Builtin.List.listLengthHint
 refine wpAny_bind (wpAny_specialOf hT PySem.F.slot_set_len.lookup ?_)
 generalize hid:("set.__len__":String)=id0
 wp_delta
 rw [show splitId id0=some ("set","__len__") from by subst hid; decide +kernel]
 subst hid
 refine wpAny_bind (wpAny_isInstance (T:="set") (b:=true) hT (by rw [isSubtype_type]; kernel_rfl) ?_)
 refine wpAny_ite_split (fun z=>absurd z (by decide)) fun _=>?_
 refine wpAny_ite_split (fun _=>?_) fun z=>absurd (by decide +kernel) z
 exact wpAny_bind (wpAny_typeOf hT (wpAny_pure h))
theorem zfm {R:List Value->Shared->Prop} (hh:A.handled=none) (hS:ISet prog w s.heap a (ledOf w) ns)
  (h:∀ (h':Heap) (tk:Nat) (d':Drawn) (vs:List Value) (ms:List Int),(∀ b o,s.heap.get? b=some o->h'.get? b=some o)->s.heap.objs.size < h'.objs.size->IntsAre vs ms->ms.Perm ns->R vs { s with heap:=h',toks:=tk,drawn:=d' }):
  wpAny (model prog w) A (collect (.ref a)) R E s:=by
 obtain ⟨o,es,ep,t,ho,hex,hd,h1,h2,h3,h4,h5,h6,h7⟩:=hS
 have hz:=fits_of_scanBound h4
 have hlt:=Heap.lt_size ho
 have hS0:SetAt s.heap a es ep t:=⟨o,ho,hex,hd⟩
 unfold collect
 refine wpAny_bind (wpAny_runValue (codeAny_builtin entry_proto_collect' ?_))
 rw [Around.under_plainId PySem.F.plain_proto_collect _]
 show wpAny _ A.in1 (newList [] >>= fun l=>again (.builtin "list.__iadd__" ⟨[l,.ref a],[]⟩)) _ _ s
 refine wpAny_bind (wpAny_newObj_type ?_)
 refine wpAny_pure ⟨plainId_quiet PySem.F.plain_list_iadd _,codeAny_builtin entry_list_iadd' ?_⟩
 rw [Around.under_plainId PySem.F.plain_list_iadd _]
 generalize hP:s.heap.push { cls:=.type "list",data:=.seq ([]:List Value).toArray }=P1
 have keep1:∀ b o,s.heap.get? b=some o->P1.get? b=some o:=fun b o e=>by rw [<- hP]; exact Heap.get?_push_of_some _ e
 have hL:P1.get? s.heap.objs.size=some { cls:=.type "list",data:=.seq #[] }:=by rw [<- hP]; exact Heap.get?_push_size _ rfl
 have hz1:P1.objs.size=s.heap.objs.size + 1:=by rw [<- hP]; exact Heap.size_push _ _
 show wpAny _ A.in1 (Builtin.List.listExtendWith (.ref s.heap.objs.size) (.ref a) (.ref s.heap.objs.size)) _ _ { s with heap:=P1 }
 have key:wpAny (model prog w) A.in1 (Builtin.List.listExtendWith (.ref s.heap.objs.size) (.ref a) (.ref s.heap.objs.size))
   (fun fin s'=>match fin with
    | .done f=>False
    | .again c'=>c'.quiet=true /\ codeAny (model prog w) A c' (fun q s'=>∃ (h':Heap) (tk:Nat) (d':Drawn) (acc:Array Value) (c':Nat) (ms:List Int),q=.ok (.ret (.ref s.heap.objs.size)) /\ s'={ s with heap:=h',toks:=tk,drawn:=d' } /\
      (∀ b o,s.heap.get? b=some o->h'.get? b=some o) /\ h'.get? s.heap.objs.size=some { cls:=.type "list",dict:=none,data:=.seq acc c',slots:=#[] } /\ IntsAre acc.toList ms /\ ms.Perm ns) s') (fun _ _=>False) { s with heap:=P1 }:=by
  unfold Builtin.List.listExtendWith
  have hS1:=hS0.at (h':=P1) fun o e=>keep1 a o e
  obtain ⟨o1,ho1,hex1,hd1⟩:=id hS1
  refine wpAny_bind (wpAny_typeOf (T:="set") ⟨o1,ho1,hex1.1⟩ ?_)
  have q1:Builtin.List.listSameRef (.ref s.heap.objs.size) (.ref a)=false:=by simp [Builtin.List.listSameRef,Nat.ne_of_gt hlt]
  have q2:(Value.type "set" == Value.type "list")=false:=by decide
  have q3:(Value.type "set" == Value.type "tuple")=false:=by decide
  simp only [q1,q2,q3,Bool.or_false,Bool.false_eq_true,if_false]
  refine wpAny_bind (zjy (s:={ s with heap:=P1 }) hS1 h5 h7 h6 hz fun I fp ord St hh1 d1 hp hW st0 kp hI hfp=>?_)
  replace kp:∀ b o,P1.get? b=some o->hh1.get? b=some o:=kp
  replace hI:P1.objs.size<=I:=hI
  replace hfp:∀ b∈fp,b=a \/ P1.objs.size<=b:=hfp
  have hSf:s.heap.objs.size∉fp:=fun z=>by
   rcases hfp _ z with e | e
   ·exact Nat.lt_irrefl _ (e ▸ hlt)
   ·rw [hz1] at e; exact Nat.not_succ_le_self _ e
  have hSI:s.heap.objs.size≠I:=fun z=>by rw [<- z,hz1] at hI; exact Nat.not_succ_le_self _ hI
  obtain ⟨o2,ho2,hex2,_⟩:=hS1.at (h':=hh1) fun o e=>kp a o e
  obtain ⟨i0,hi0⟩:=zcT h2 hp
  have hol:ord.length<=sizeLine:=by rw [hp.length_eq]; simpa using hz
  have run:∀ (g:Heap) (c0:Nat),St 0 g->(∀ b o,b≠s.heap.objs.size->hh1.get? b=some o->g.get? b=some o)->g.get? s.heap.objs.size=some { cls:=.type "list",data:=.seq #[] c0 }->
    codeAny (model prog w) A (.builtin "list.extend.loop" ⟨[.ref s.heap.objs.size,.ref I,.ref s.heap.objs.size],[]⟩) (fun q s'=>∃ (h':Heap) (tk:Nat) (d':Drawn) (acc:Array Value) (c':Nat) (ms:List Int),q=.ok (.ret (.ref s.heap.objs.size)) /\ s'={ s with heap:=h',toks:=tk,drawn:=d' } /\
     (∀ b o,s.heap.get? b=some o->h'.get? b=some o) /\ h'.get? s.heap.objs.size=some { cls:=.type "list",dict:=none,data:=.seq acc c',slots:=#[] } /\ IntsAre acc.toList ms /\ ms.Perm ns) { s with heap:=g,drawn:=d1 }:=by
   intro g c0 st k hg
   refine codeAny_extend_loopS (hW A.in1 hh).toS hol _ hSf _ ord.length 0 _ #[] c0 rfl (Nat.zero_le _) st hg (ItemsOf.nil _) fun s' acc' c' mv hS' hacc=>?_
   obtain ⟨hx,gx,dx,tx,ox⟩:=s'
   have eg:gx=s.gens:=mv.gens
   have ed:dx=d1:=mv.drawn
   have eo:ox=s.os:=mv.os
   subst eg ed eo
   have eacc:acc'.toList=ord:=by
    refine List.ext_getElem? fun j=>?_
    by_cases hj:j < acc'.size
    ·have q:=hacc.2 j _ (Array.getElem?_eq_getElem hj)
     rw [q]; simp [hj]
    ·rw [List.getElem?_eq_none (by simp; omega),List.getElem?_eq_none (by rw [<- hacc.1]; omega)]
   refine ⟨hx,tx,dx,acc',c',i0,rfl,rfl,fun b o e=>?_,hS',by rw [eacc]; exact hi0.1,hi0.2⟩
   have hb:=Heap.lt_size e
   refine mv.heap b o ?_ (k b o (Nat.ne_of_lt hb) (kp b o (keep1 b o e)))
   simp only [List.mem_cons,List.not_mem_nil,or_false,not_or]
   exact ⟨Nat.ne_of_lt hb,Nat.ne_of_lt (Nat.lt_of_lt_of_le hb (Nat.le_trans (by rw [hz1]; exact Nat.le_succ _) hI))⟩
  have hg1:hh1.get? s.heap.objs.size=some { cls:=.type "list",data:=.seq #[] }:=kp _ _ hL
  refine wpAny_bind (wpAny_holding (zjA ⟨o2,ho2,hex2.1⟩ ?_))
  refine wpAny_ite_split (fun _=>?_) (fun _=>wpAny_pure ⟨plainId_quiet PySem.F.plain_extend_loop _,run hh1 0 st0 (fun b o _ e=>e) hg1⟩)
  refine wpAny_bind (wpAny_rule (wpAny_bind ?_))
  show wpAny _ _ (updateSeq s.heap.objs.size (·.push .none) >>= fun _=>updateSeq s.heap.objs.size (·.pop)) _ _ _
  refine wpAny_bind (wpAny_updateSeq hg1 rfl ?_)
  have hg2:=Heap.get?_update_self (Obj.mapSeq (·.push Value.none)) hg1 rfl
  refine wpAny_updateSeq (hz:=by seq_fits) hg2 rfl ?_
  have hg3:=Heap.get?_update_self (Obj.mapSeq (·.pop)) hg2 rfl
  refine wpAny_pure ⟨plainId_quiet PySem.F.plain_extend_loop _,run _ _ ((hW A.in1 hh).frame 0 _ _ st0 fun b hb o e=>?_) (fun b o hb e=>?_) hg3⟩
  ·have hbS:b≠s.heap.objs.size:=fun z=>hSf (z ▸ hb)
   exact (Heap.get?_update_other _ _ (Ne.symm hbS)).trans ((Heap.get?_update_other _ _ (Ne.symm hbS)).trans e)
  ·exact (Heap.get?_update_other _ _ (Ne.symm hb)).trans ((Heap.get?_update_other _ _ (Ne.symm hb)).trans e)
 refine wpAny_mono key (fun fin s' x=>?_) fun _ _ z=>z.elim
 cases fin with
 | done f=>exact x.elim
 | again c₁=>
   refine ⟨x.1,codeAny_mono x.2 fun q s₂ y=>?_⟩
   obtain ⟨h',tk,d',acc,c',ms,rfl,rfl,hk,hS',i1,p1⟩:=y
   show wpAny _ A (load s.heap.objs.size >>= _) _ _ _
   exact wpAny_bind (wpAny_load hS' (wpAny_pure (h h' tk d' acc.toList ms hk (Heap.lt_size hS') i1 p1)))
theorem zcV {Q:Value->Shared->Prop} (hh:A.handled=none) (hS:ISet prog w s.heap a (ledOf w) ns) (h64:ns.length < 64)
  (h:∀ (D:Addr) (h':Heap) (tk:Nat) (d':Drawn) (out:Array Value) (n:Nat) (ms:List Int),s.heap.objs.size<=D->(∀ b o,s.heap.get? b=some o->h'.get? b=some o)->h'.get? D=some (seqObj "list" out n)->IntsAre out.toList ms->ms.Perm ns->ms.Pairwise (·<=·)->Q (.ref D) { s with heap:=h',toks:=tk,drawn:=d' }):
  wpAny (model prog w) A (call (.builtin "sorted") [.ref a]) Q E s:=by
 refine call_function_entry kind_sorted plain_sorted entry_sorted (args_sorted1 _) ?_
 unfold Builtin.«sorted»
 refine wpAny_bind (m:=checkCount "sorted" 1 1 _) (wpAny_pure ?_)
 refine wpAny_bind (zfm (A:=A.in1) hh hS fun h' tk d' vs ms hk hgr hi hp=>?_)
 have hl:vs.length=ns.length:=by rw [<- hp.length_eq,(zaa.mp hi).2,List.length_map]
 have hzl:vs.length<=sizeLine:=by rw [sizeLine_eq]; omega
 refine wpAny_bind (wpAny_newList ?_ hzl)
 have hoL:(h'.push (seqObj "list" vs.toArray 0)).get? h'.objs.size=some (seqObj "list" vs.toArray 0):=Heap.get?_push_size _ rfl
 refine wpAny_bind (wpAny_holding (wpAny_call_entry slot_list_sort ⟨_,hoL,rfl⟩ entry_list_sort (list_sort_tree hoL hi (by omega) fun out ms' a1 a2 a3=>⟨_,rfl,?_⟩) (args_list_sort _)))
 obtain ⟨en,hen⟩:=sortedHeap_at (out:=out) hoL
 refine wpAny_pure ⟨_,rfl,h h'.objs.size _ tk d' out en ms' (Nat.le_of_lt hgr) (fun b o e=>?_) hen a1 (a2.trans hp) a3⟩
 have hb:=Heap.lt_size (hk b o e)
 rw [sortedHeap_old (Nat.ne_of_lt hb) (by rw [size_push']; exact Nat.lt_succ_of_lt hb)]
 exact Heap.get?_push_of_some _ (hk b o e)
end
end LS
namespace L2
open PySem PySem.Spec PyProof.Rows LS
noncomputable def ins (x:Int):List Int->List Int
 | []=>[x]
 | y :: l=>if x < y then x :: y :: l else if x=y then y :: l else y :: ins x l
noncomputable def ss:List Int->List Int
 | []=>[]
 | x :: l=>ins x (ss l)
set_option tactic.hygienic true in
theorem ze6 {x z:Int}:∀ {l:List Int},z∈ins x l↔z=x \/ z∈l
 | []=>by simp [ins]
 | y :: l=>by
   rw [ins]
   split
   ·simp
   ·split
    ·rename_i h; subst h; simp
    ·simp only [List.mem_cons,ze6]
     constructor
     ·rintro (h | h | h)
      ·exact .inr (.inl h)
      ·exact .inl h
      ·exact .inr (.inr h)
     ·rintro (h | h | h)
      ·exact .inr (.inl h)
      ·exact .inl h
      ·exact .inr (.inr h)
set_option tactic.hygienic true in
theorem zdl {x:Int}:∀ {l:List Int},l.Pairwise (· < ·)->(ins x l).Pairwise (· < ·)
 | [],_=>by simp [ins]
 | y :: l,h=>by
   rw [List.pairwise_cons] at h
   rw [ins]
   split
   ·rename_i hxy
    refine List.pairwise_cons.mpr ⟨fun z hz=>?_,List.pairwise_cons.mpr h⟩
    rcases List.mem_cons.mp hz with e | e
    ·rw [e]; exact hxy
    ·exact Int.lt_trans hxy (h.1 z e)
   ·split
    ·exact List.pairwise_cons.mpr h
    ·refine List.pairwise_cons.mpr ⟨fun z hz=>?_,zdl h.2⟩
     rcases ze6.mp hz with e | e
     ·rw [e]; omega
     ·exact h.1 z e
theorem zg7 {z:Int}:∀ {l:List Int},z∈ss l↔z∈l
 | []=>by simp [ss]
 | x :: l=>by rw [ss,ze6,zg7,List.mem_cons]
theorem zbr:∀ {l:List Int},(ss l).Pairwise (· < ·)
 | []=>.nil
 | _ :: _=>zdl zbr
theorem zde:∀ {l m:List Int},l.Pairwise (· < ·)->m.Pairwise (· < ·)->(∀ z,z∈l↔z∈m)->l=m
 | [],[],_,_,_=>rfl
 | [],y :: m,_,_,h=>absurd ((h y).mpr List.mem_cons_self) (by simp)
 | x :: l,[],_,_,h=>absurd ((h x).mp List.mem_cons_self) (by simp)
 | x :: l,y :: m,hl,hm,h=>by
   rw [List.pairwise_cons] at hl hm
   have e:x=y:=by
    rcases List.mem_cons.mp ((h x).mp List.mem_cons_self) with a | a
    ·exact a
    ·rcases List.mem_cons.mp ((h y).mpr List.mem_cons_self) with b | b
     ·exact b.symm
     ·have:=hl.1 y b
      have:=hm.1 x a
      omega
   subst e
   rw [zde hl.2 hm.2 fun z=>⟨fun hz=>?_,fun hz=>?_⟩]
   ·rcases List.mem_cons.mp ((h z).mp (List.mem_cons_of_mem _ hz)) with a | a
    ·have:=hl.1 z hz; omega
    ·exact a
   ·rcases List.mem_cons.mp ((h z).mpr (List.mem_cons_of_mem _ hz)) with a | a
    ·have:=hm.1 z hz; omega
    ·exact a
theorem zlU {l m:List Int} (hm:m.Pairwise (· < ·)) (h:∀ z,z∈m↔z∈l):ss l=m:=zde zbr hm fun z=>by rw [zg7,h]
section
variable {X:Cx} {pins:List (Addr×Obj)} {σ:St} {H:Hp} {s:Shared}
theorem Inv.drew (I:Inv X pins σ H s) (d':Drawn):Inv X pins σ H { s with drawn:=d' }:=
 I.step (d':=d') (g':=s.gens) (t':=s.toks) (ch:=[]) (fun b hb=>by simp at hb) (fun _ _ _ _ _ e _=>e) (fun b o _ _ _ e _=>⟨o.slots,e⟩) (fun _ _ _ _ n=>n) (fun b o _ e=>⟨o,e⟩) (fun _ _ e=>e) (fun _ _ _ e=>e)
  (fun b ps e=>⟨#[],by rw [e]; simp⟩) (fun _ h=>h) I.hok I.bare
noncomputable def SetO (P:Program) (w:World) (a:Addr) (ns:List Int):HO:=.ext fun h=>ISet P w h a (ledOf w) ns
noncomputable def rSet (P:Program) (w:World) (K:PySem.W.Frag):List V->Hp->VK->Prop:=fun xs H Q=>∃ (p:Addr) (ms:List Int),xs=[.ref p] /\ (SqL K H p (ms.map V.int) \/ SqT K H p (ms.map V.int)) /\ ms.length + 1 < scanBound /\
 ∀ (l:Addr) (ns:List Int),H l=none->(∀ x,x∈ns↔x∈ms)->ns.length<=ms.length->Q (.ref l) (upd H l (SetO P w l ns))
theorem zh9 (hc:X.calm=true):CallR X (.type "set") (rSet X.prog X.w X.K):=by
 intro pins s σ H xs us Q I r h
 obtain ⟨p,ms,rfl,hq,hb,q⟩:=h
 obtain ⟨u,rfl,rx⟩:=vals1 r
 cases rx
 have hh:=I.ok.hd hc
 have fin:∀ (h':Heap) (tk:Nat) (ns:List Int),ISet X.prog X.w h' s.heap.objs.size (ledOf X.w) ns->(∀ x,x∈ns↔x∈ms)->ns.length<=ms.length->(∀ b o,s.heap.get? b=some o->h'.get? b=some o)->EP X pins σ Q (.ref s.heap.objs.size) { s with heap:=h',toks:=tk }:=fun h' tk ns S m l k=>
  ⟨.ref s.heap.objs.size,_,I.laid (o:=SetO X.prog X.w s.heap.objs.size ns) k (Nat.le_refl _) ⟨S,(let ⟨o,_,_,_,e,_⟩:=S; ⟨o,e⟩),fun h1 h2 S1 kk=>S1.keeps kk⟩,rfl,q _ ns (I.hok.fresh (Nat.le_refl _)) m l⟩
 rcases hq with hq | hq
 ·obtain ⟨its,rv,pl,_⟩:=I.list hq
  have hi:IntsAre its ms:=zdk rv
  have hl:its.length=ms.length:=by rw [(zaa.mp hi).2,List.length_map]
  exact zfs hh (ziX pl.isList) hi (by rw [List.size_toArray,hl]; exact hb) fin
 ·obtain ⟨its,rv,pl,_⟩:=I.tuple hq
  have hi:IntsAre its ms:=zdk rv
  have hl:its.length=ms.length:=by rw [(zaa.mp hi).2,List.length_map]
  exact zfs hh (zhF (show s.heap.IsTuple p its.toArray from pl)) hi (by rw [List.size_toArray,hl]; exact hb) fin
noncomputable def rSortSet (P:Program) (w:World):List V->Hp->VK->Prop:=fun xs H Q=>∃ (p:Addr) (ns:List Int),xs=[.ref p] /\ H p=some (SetO P w p ns) /\ ns.length < 64 /\ ∀ (l:Addr) (out:List Int),H l=none->out.Pairwise (· < ·)->(∀ x,x∈out↔x∈ns)->Q (.ref l) (upd H l (.lst (out.map V.int)))
theorem zfH:∀ {vs:List Value} {ns:List Int},IntsAre vs ns->Vals (ns.map V.int) vs
 | _,_,.nil=>.nil
 | _,_,.cons n t h=>.cons ⟨t,rfl⟩ (zfH h)
theorem zkz {prog:Program} {w:World} {h:Heap} {a:Addr} {led:Bool} {ns:List Int} (h:ISet prog w h a led ns):ns.Nodup:=by
 obtain ⟨_,_,_,_,_,_,_,_,_,z,_⟩:=h
 exact z
theorem zd8 (hc:X.calm=true):CallR X (.builtin "sorted") (rSortSet X.prog X.w):=by
 intro pins s σ H xs us Q I r h
 obtain ⟨p,ns,rfl,hp,h64,q⟩:=h
 obtain ⟨u,rfl,rx⟩:=vals1 r
 cases rx
 have hS:ISet X.prog X.w s.heap p (ledOf X.w) ns:=(show ObjOk X.prog X.w H s.heap p (SetO X.prog X.w p ns) from I.hok p _ hp).1
 have nd:ns.Nodup:=zkz hS
 refine zcV (I.ok.hd hc) hS h64 fun D h' tk d' out n ms hD k e hi hperm hsort=>?_
 have hl:ms.length=ns.length:=hperm.length_eq
 have J:=(I.drew d').laid (t':=tk) (o:=.lst (ms.map V.int)) (h':=h') k hD ⟨by rw [List.length_map,sizeLine_eq]; omega,out.toList,n,zfH hi,by simpa using e⟩
 refine ⟨.ref D,_,J,rfl,q D ms (I.hok.fresh hD) ?_ fun x=>hperm.mem_iff⟩
 have nd2:ms.Nodup:=hperm.nodup_iff.mpr nd
 refine (List.Pairwise.and hsort nd2).imp fun {a b} hab=>?_
 have:=hab.1
 have:=hab.2
 omega
end
theorem zlR:bootBuiltins "set"=some (.type "set"):=by decide +kernel
theorem zhY:bootBuiltins "sorted"=some (.builtin "sorted"):=by decide +kernel
noncomputable def intsD:List D->Option (List Int)
 | []=>some []
 | .int i :: l=>(intsD l).map (i :: ·)
 | _ :: _=>none
theorem zcr:∀ (ns:List Int),intsD (ns.map .int)=some ns
 | []=>rfl
 | n :: ns=>by rw [List.map_cons,intsD,zcr ns]; rfl
theorem zbx:∀ {l:List D} {ns:List Int},intsD l=some ns->l=ns.map .int
 | [],_,h=>by cases h; rfl
 | d :: l,ns,h=>by
   cases d with
   | int i=>
     rw [intsD] at h
     cases e:intsD l with
     | none=>rw [e] at h; cases h
     | some m=>rw [e] at h; cases h; rw [zbx e]; rfl
   | _=>cases h
noncomputable def dRow:D->Option (List D)
 | .list l=>some l
 | .tuple l=>some l
 | _=>none
noncomputable def gSS (g:DS->Option D):DS->Option (List D):=fun δ=>(g δ).bind fun d=>(dRow d).bind fun l=>(intsD l).bind fun ns=>if ns.length < 64 then some ((ss ns).map .int) else none
theorem HDs.toInts {K:PySem.W.Frag} {H:Hp}:∀ {ns:List Int} {xs:List V},HDs K H xs (ns.map PyData.int)->xs=ns.map V.int
 | [],_,h=>by cases h; rfl
 | n :: ns,_,h=>by
   rw [List.map_cons] at h
   cases h with
   | cons a t=>cases a; rw [HDs.toInts t]; rfl
set_option tactic.hygienic true in
theorem zcd {X:Cx} {O:List Nat} {e:Expr} {ge:DS->Option D} {p1 p2 q1 q2:Pos} (h1:X.mg "sorted"=none) (h2:X.mg "set"=none) (he:PE X e (tSh X.K O ge)) (hc:X.calm=true:=by rfl) (g1:Gl X "sorted":=by rfl) (g2:Gl X "set":=by rfl)
  (s1:starEach [Expr.Call (.Name "set" p2) [e] [] q2] X.env=(false,eval (Expr.Call (.Name "set" p2) [e] [] q2) X.env) :: starEach [] X.env:=by rfl) (s2:starEach [e] X.env=(false,eval e X.env) :: starEach [] X.env:=by rfl)
  (b1:(backTo q1 (starEach [] X.env)).any (·.1)=false:=by rfl) (b2:(backTo q2 (starEach [] X.env)).any (·.1)=false:=by rfl):
  PE X (.Call (.Name "sorted" p1) [.Call (.Name "set" p2) [e] [] q2] [] q1) (tN X.K O (gSS ge)):=
 (zcn (zd8 hc) g1 h1 zhY (zC (zcv (zh9 hc) g2 h2 zlR (zC he zY s2) (by decide) (by decide) s2 b2) zY s1) (by decide) (by decide) s1 b1).mono fun σ H Q hh=>hh.e fun U A0 δ ds R ed q=>by
  obtain ⟨d,e1,ed⟩:=bind1 ed
  obtain ⟨l,e2,ed⟩:=bind1 ed
  obtain ⟨ns,e3,ed⟩:=bind1 ed
  split at ed
  ·rename_i h64
   cases ed
   refine ⟨U,A0,δ,d,R,e1,fun v H1 s1 hv=>?_⟩
   have row:∃ p,v=.ref p /\ (SqL X.K H1 p (ns.map V.int) \/ SqT X.K H1 p (ns.map V.int)):=by
    unfold dRow at e2
    split at e2
    ·cases e2
     obtain ⟨p,xs,rfl,r1,r2⟩:=hv.list
     rw [zbx e3] at r2
     rw [<- r2.toInts]
     exact ⟨p,rfl,.inl r1.sq⟩
    ·cases e2
     obtain ⟨p,xs,rfl,r1,r2⟩:=hv.tuple
     rw [zbx e3] at r2
     rw [<- r2.toInts]
     exact ⟨p,rfl,.inr r1⟩
    ·cases e2
   obtain ⟨p,rfl,hrow⟩:=row
   refine ⟨p,ns,rfl,hrow,by unfold scanBound; omega,fun l1 ms hl1 hm hle=>?_⟩
   refine ⟨l1,ms,rfl,zG,by omega,fun l2 out hl2 hr hm2=>?_⟩
   have eo:out=ss ns:=(zlU hr fun z=>by rw [hm2,hm]).symm
   subst eo
   refine q l2 _ _ (s1.trans ((zI hl1 _).trans (zI hl2 _))) (s1.free ((zI hl1 _).free hl2)) zG (HDs.ints _)
  ·cases ed
end L2
namespace L2
open PySem PySem.Spec PyProof.Rows
section
variable {prog:Program} {w:World} {A:Around} {R:Result->Shared->Prop} {s:Shared}
theorem zeE {elt target iter:Expr} {ifs:List Expr} {scope:Scope} {pos:Pos} {it acc:Value} {env:Env} (I:Nat->Shared->Prop)
  (turn:∀ n s,I n s->wpAny (model prog w) A (pyNext it) (fun r s₁=>match r with
   | none=>R (.ok .next) s₁
   | some v=>wpAny (model prog w) A (letOwnedTupleGo target it v) (fun _ s₂=>wpAny (model prog w) A (assign target env v) (fun _ s₃=>
     wpAny (model prog w) A (forIn ifs true fun c r=>if r=true then do let ok <- isTrue c env (eval c env); pure (ForInStep.yield ok) else pure (ForInStep.yield r)) (fun ok s₄=>
      if ok=true then wpAny (model prog w) A (eval elt env) (fun x s₅=>
       wpAny (model prog w) A (call (.builtin "list.append") [acc,x]) (fun _ s₆=>∃ m,m < n /\ I m s₆) (notedBy (model prog w) A env fun e s'=>R (.error e) s') s₅) (notedBy (model prog w) A env fun e s'=>R (.error e) s') s₄
      else ∃ m,m < n /\ I m s₄) (notedBy (model prog w) A env fun e s'=>R (.error e) s') s₃) (notedBy (model prog w) A env fun e s'=>R (.error e) s') s₂) (notedBy (model prog w) A env fun e s'=>R (.error e) s') s₁) (notedBy (model prog w) A env fun e s'=>R (.error e) s') s)
  (n:Nat) (h:I n s):codeAny (model prog w) A (.compLoop (.ListComp elt [⟨target,iter,ifs,0⟩] scope pos) 0 it acc env) R s:=by
 refine codeAny_loop rfl I (fun n s hI=>?_) n h
 show wpAny _ A ((compTurn (.ListComp elt [⟨target,iter,ifs,0⟩] scope pos) 0 it acc env).onRaise (fun x=>do noteFrame x env; theTreesLotGoes x)) _ _ s
 refine wpAny_noted ?_
 rw [compTurn_list]
 refine wpAny_bind (wpAny_standAt (wpAny_bind (wpAny_mono (turn n s hI) (fun r s₁ h₁=>?_) fun _ _ z=>z)))
 cases r with
 | none=>exact wpAny_pure h₁
 | some v=>
   refine wpAny_bind (wpAny_mono h₁ (fun _ s₂ h₂=>wpAny_bind (wpAny_mono h₂ (fun _ s₃ h₃=>wpAny_bind (wpAny_mono h₃ (fun ok s₄ h₄=>?_) fun _ _ z=>z)) fun _ _ z=>z)) fun _ _ z=>z)
   cases ok with
   | false=>exact wpAny_pure ⟨rfl,h₄⟩
   | true=>exact wpAny_bind (wpAny_bind (wpAny_mono h₄ (fun x s₅ h₅=>wpAny_bind (wpAny_mono h₅ (fun _ s₆ h₆=>wpAny_pure (wpAny_pure ⟨rfl,h₆⟩)) fun _ _ z=>z)) fun _ _ z=>z))
end
noncomputable def PF (X:Cx) (ifs:List Expr) (t:TT):Prop:=
 ∀ (pins:List (Addr×Obj)) (s:Shared) (σ:St) (H:Hp) (Q:Bool->Hp->Prop),Inv X pins σ H s->t σ H Q->
   wpAny (model X.prog X.w) X.A (forIn ifs true fun c r=>if r=true then do let ok <- isTrue c X.env (eval c X.env); pure (ForInStep.yield ok) else pure (ForInStep.yield r)) (TP X pins σ Q) X.xe s
noncomputable def tYes:TT:=fun _ H Q=>Q true H
theorem zmF {X:Cx}:PF X [] tYes:=fun _ _ _ H _ I q=>wpAny_pure ⟨H,I,q⟩
theorem zfI {X:Cx} {c:Expr} {t:TT} (h:PT X c t):PF X [c] t:=fun pins s σ H Q I q=>wpAny_tests_one (h pins s σ H Q I q)
section
variable {X:Cx}
structure CompScL (X:Cx) (scope:Scope) (xs:List Str) (ix:List Nat) (N':List Str):Prop where
 kind:scope.kind=.function
 nocell:∀ y∈scope.names,y.2≠.cell
 names:∀ y∈scope.names,y.2=.local->scope.names.lookup y.1=some .local
 free:∀ y∈scope.names,y.2=.free->X.env.kindOf y.1=some .cell \/ X.env.kindOf y.1=some .free
 only:∀ n,(X.env.scope.kind=.function)->((relabel scope X.env).names.lookup n=some .cell \/ (relabel scope X.env).names.lookup n=some .free)->(n,NameKind.free)∈scope.names
 nm:N'=xs ++ ix.map fun j=>X.N.getD j ""
 ixs:∀ j∈ix,j < X.N.length /\ (X.N.getD j "",NameKind.free)∈scope.names /\ ((relabel scope X.env).names.lookup (X.N.getD j "")=some .cell \/ (relabel scope X.env).names.lookup (X.N.getD j "")=some .free)
section
variable {scope:Scope} {xs:List Str} {ix:List Nat} {N':List Str} {cl:List (Str×Addr)} {C:Addr} {s2 s3:Shared} {H2:Hp} {fp:List Addr} {pins:List (Addr×Obj)} {σ:St}
theorem ziK (S:CompScL X scope xs ix N') (I:Inv X pins σ H2 s2) (hC:s2.heap.objs.size<=C) (h1:∀ n c,cl.lookup n=some c->X.env.cells.lookup n=some c) (h2:∀ n,(n,NameKind.free)∈scope.names->∃ c,cl.lookup n=some c)
  (hf:∀ b∈fp,FpOk X pins H2 b) (hfl:∀ b∈fp,b < s2.heap.objs.size):(compCx X scope N' cl C s2 H2 fp pins).Ok where
 mod:=I.ok.mod
 kind:=by show (relabel scope X.env).kind=_; exact S.kind
 glob:=I.ok.glob
 blt:=I.ok.blt
 above:=hC
 inj:=fun a b c e1 e2=>I.ok.inj a b c (h1 _ _ e1) (h1 _ _ e2)
 has:=fun a h=>h2 a (S.only a I.ok.kind h)
 cab:=fun a c h=>by cases h
 hd:=I.ok.hd
 frames:=I.ok.frames
 stk:=.inl rfl
 exf:=fun b hb=>⟨Nat.ne_of_lt (Nat.lt_of_lt_of_le (hfl b hb) hC),fun a c e=>(hf b hb).2.2.2.2.1 a c (h1 _ _ e)⟩
 bs:=I.bs
 bsz:=Nat.le_trans I.ok.bsz I.sz
 noex:=fun b o e hb=>by
  rcases (hf b hb).2.2.2.1 with z | z
  ·exact I.ok.noex b o e z
  ·have:=(I.ok.bs b o e).1
   exact absurd (Nat.lt_of_lt_of_le (Heap.lt_size this) z) (Nat.lt_irrefl _)
 exfs:=fun b hb z=>by
  rcases List.mem_cons.mp (I.stkSub b z) with e | e
  ·exact (hf b hb).2.1 e
  ·exact (hf b hb).2.2.1 e
 funs:=I.stack
 frf:=I.stkFree
theorem zhI (S:CompScL X scope xs ix N') (I:Inv X pins σ H2 s2) (hC:s2.heap.objs.size<=C) (h1:∀ n c,cl.lookup n=some c->X.env.cells.lookup n=some c) (h2:∀ n,(n,NameKind.free)∈scope.names->∃ c,cl.lookup n=some c)
  (hf:∀ b∈fp,FpOk X pins H2 b) (hfl:∀ b∈fp,b < s2.heap.objs.size) (hs3:s3.os=s2.os) (hg:s3.gens=s2.gens) (k:∀ b o,s2.heap.get? b=some o->s3.heap.get? b=some o) {m:Str->Option Value} (hn:s3.heap.Ns C m):
  Inv (compCx X scope N' cl C s2 H2 fp pins) [] (List.replicate xs.length none ++ capt ix σ) H2 s3 where
 ok:=ziK S I hC h1 h2 hf hfl
 os:=hs3
 bare:=by rw [hg]; exact I.bare
 base:=⟨fun b o e _ _ _=>k b o e,fun b o e _ _ _=>⟨o.slots,k b o e⟩,fun b o e n _=>n,fun b o e _=>⟨o,k b o e⟩,fun _ _ e=>e,fun _ _ _ e=>e,fun b ps e=>⟨#[],by rw [Array.append_empty]; exact e⟩⟩
 loc:=by
  refine ⟨m,hn,fun i y v e1 e2 e3=>?_⟩
  by_cases hi:i < xs.length
  ·rw [List.getElem?_append_left (by simpa using hi),List.getElem?_replicate,if_pos hi] at e2
   cases e2
  ·have e2':(capt ix σ)[i - xs.length]?=some (some v):=by rw [List.getElem?_append_right (by simp; omega)] at e2; simpa using e2
   obtain ⟨j,ej,es⟩:=ziI e2'
   have e1':N'[i]?=some y:=e1
   rw [S.nm,List.getElem?_append_right (by omega),List.getElem?_map,ej] at e1'
   have ey:X.N.getD j ""=y:=Option.some.inj e1'
   obtain ⟨hj,hfr,hk⟩:=S.ixs j (List.mem_of_getElem? ej)
   obtain ⟨m0,hn0,hl0⟩:=I.loc
   have eN:X.N[j]?=some y:=by rw [<- ey,List.getD_eq_getElem?_getD,List.getElem?_eq_getElem hj]; rfl
   have kd:=S.free _ hfr rfl
   have hv:Vis X.env.scope y:=by
    rw [<- ey]
    rcases kd with z | z
    ·exact .inr (.inl z)
    ·exact .inr (.inr z)
   obtain ⟨u,r,l⟩:=hl0 j y v eN es hv
   refine ⟨u,r,.inr ?_⟩
   rcases l with ⟨q,_⟩ | ⟨_,c,ec,z⟩
   ·have kd':X.env.kindOf y=some .cell \/ X.env.kindOf y=some .free:=by rw [<- ey]; exact kd
    rcases kd' with w | w <;> rw [q] at w <;> cases w
   ·obtain ⟨c',e'⟩:=h2 _ hfr
    rw [ey] at e'
    have:=h1 _ _ e'
    rw [ec] at this; cases this
    obtain ⟨o,ho,hd⟩:=z
    exact ⟨by rw [<- ey]; exact hk,c,e',o,k c o ho,hd⟩
 cell:=fun a c e=>by
  obtain ⟨v,o,ho,hd⟩:=I.cell a c (h1 _ _ e)
  exact ⟨v,o,k c o ho,hd⟩
 free:=I.hok.fresh hC
 freeC:=fun a c e=>I.freeC a c (h1 _ _ e)
 pin:=fun p hp=>by
  have hp':p∈X.pn ++ pins:=by
   rcases List.mem_append.mp hp with z | z
   ·exact z
   ·simp at z
  obtain ⟨e,n,ne,nf,d⟩:=I.pin p hp'
  refine ⟨k _ _ e,n,Nat.ne_of_lt (Nat.lt_of_lt_of_le (Heap.lt_size e) hC),fun z=>?_,d⟩
  rcases List.mem_cons.mp (I.stkSub _ z) with q | q
  ·exact ne q
  ·exact nf q
 hok:=I.hok.kept k
 len:=by
  show (List.replicate xs.length none ++ capt ix σ).length=N'.length
  rw [S.nm]
  unfold capt
  simp
end
noncomputable def cBlockL (J:It) (k:Nat) (ix:List Nat) (g:TG) (tc:TT) (te:TE) (σ:St) (H:Hp) (Q:VK):Prop:=∃ W:Nat->Nat->List V->St->Hp->Prop,(∃ m,W 0 m [] (List.replicate k none ++ capt ix σ) H) /\ ∀ i m ys τ H,W i m ys τ H->ys.length<=sizeLine /\
 ((J.stop i H /\ ∀ p,H p=none->Q (.ref p) (upd H p (.lst ys))) \/ (J.go i H /\ ys.length < sizeLine /\ ∀ v H',J.yld i H v H'->g v τ H' fun τ2 H2=>tc τ2 H2 fun b H3=>
   if b=true then te τ2 H3 fun y H4=>∃ m',m' < m /\ W (i + 1) m' (ys ++ [y]) τ2 H4 else ∃ m',m' < m /\ W (i + 1) m' ys τ2 H3))
noncomputable def tCompL (wi:TI) (k:Nat) (ix:List Nat) (g:TG) (tc:TT) (te:TE):TE:=fun σ H Q=>wi σ H fun J H1=>cBlockL J k ix g tc te σ H1 Q
section
variable {scope:Scope} {xs:List Str} {ix:List Nat} {N':List Str} {elt iter tg:Expr} {ifs:List Expr} {pos:Pos} {wi:TI} {te:TE} {tc:TT} {g:TG}
structure CIn (X':Cx) (D:Addr) (fp:List Addr) (tn:Nat->Heap->Prop) (W:Nat->Nat->List V->St->Hp->Prop) (n:Nat) (s':Shared) (i:Nat) (ys:List V) (its:List Value) (k:Nat) (σ':St) (H':Hp):Prop where
 I:Inv X' [(D,lob its k)] σ' H' s'
 st:tn i s'.heap
 fr:∀ b∈fp,H' b=none
 w:W i n ys σ' H'
 rv:Vals ys its
noncomputable def CInv (X':Cx) (D:Addr) (fp:List Addr) (tn:Nat->Heap->Prop) (W:Nat->Nat->List V->St->Hp->Prop) (n:Nat) (s':Shared):Prop:=∃ i ys its k σ' H',CIn X' D fp tn W n s' i ys its k σ' H'
theorem zms {X':Cx} {D:Addr} {fp:List Addr} {tn:Nat->Heap->Prop} {W:Nat->Nat->List V->St->Hp->Prop} {n:Nat} {s':Shared} {P:Prop} (h:CInv X' D fp tn W n s') (k:∀ i ys its k σ' H',CIn X' D fp tn W n s' i ys its k σ' H'->P):P:=by
 obtain ⟨_,_,_,_,_,_,t⟩:=h
 exact k _ _ _ _ _ _ t
theorem zmT {gd:Cx->Prop} {X:Cx} {pins:List (Addr×Obj)} {σ:St} {tg:Expr} {R:It->Hp->Prop} {itv:Value} {s2:Shared} {P:Value->Prop} (h:PIEG gd X pins σ tg R itv s2) (k:∀ it fp tn J H',Inv X pins σ H' s2->TurnG gd X.prog X.w X.K tg J fp it tn->tn 0 s2.heap->(∀ b∈fp,FpOk X pins H' b)->R J H'->P (.ref it)):P itv:=by
 obtain ⟨it,fp,tn,J,H',rfl,a,b,c,d,e⟩:=h
 exact k it fp tn J H' a b c d e
theorem zeB (S:CompScL X scope xs ix N') {gd:Cx->Prop} (hc:∀ cl C s2 H2 fp pins,gd (compCx X scope N' cl C s2 H2 fp pins)) (hg:∀ cl C s2 H2 fp pins,PG (compCx X scope N' cl C s2 H2 fp pins) tg g) (hf:∀ cl C s2 H2 fp pins,PF (compCx X scope N' cl C s2 H2 fp pins) ifs tc) (helt:∀ cl C s2 H2 fp pins,PE (compCx X scope N' cl C s2 H2 fp pins) elt te)
  {pins:List (Addr×Obj)} {σ:St} {s2:Shared} {Q:VK} {itv:Value} (h:PIEG gd X pins σ tg (fun J H1=>cBlockL J xs.length ix g tc te σ H1 Q) itv s2) {cl:List (Str×Addr)} (h1:∀ n c,cl.lookup n=some c->X.env.cells.lookup n=some c) (h2:∀ n,(n,NameKind.free)∈scope.names->∃ c,cl.lookup n=some c)
  {use:Option (Value->Sem Unit)} {QQ:Value->Shared->Prop}
  (fin:∀ (D C:Addr) (H':Hp) (s1:Shared) (m:Str->Option Value),s1.heap.Ns C m->H' C=none->X.s₀.heap.objs.size<=C->C≠X.env.locals->(∀ a c,X.env.cells.lookup a=some c->c≠C)->(∀ p∈X.pn ++ pins,p.1≠C)->(∀ h',Heap.SameBut C s1.heap h'->Inv X pins σ H' { s1 with heap:=h' })->Q (.ref D) H'->
   compPost (model X.prog X.w) X.A X.xe use QQ (.ref D) C (.ok .next) s1):
  wpAny (model X.prog X.w) X.A (newList []) (fun acc s₃=>wpAny (model X.prog X.w) X.A (newFunctionEnv scope X.env.globals cl [] X.env.qual none .none (some X.env)) (fun cenv s₄=>
   codeAny (model X.prog X.w) X.A (.compStart (.ListComp elt [⟨tg,iter,ifs,0⟩] scope pos) 0 itv acc { cenv with scope:=relabel scope X.env }) (compPost (model X.prog X.w) X.A X.xe use QQ acc cenv.locals) s₄) X.xe s₃) X.xe s2:=by
 refine zmT (P:=fun itv=>wpAny (model X.prog X.w) X.A (newList []) (fun acc s₃=>wpAny (model X.prog X.w) X.A (newFunctionEnv scope X.env.globals cl [] X.env.qual none .none (some X.env)) (fun cenv s₄=>
   codeAny (model X.prog X.w) X.A (.compStart (.ListComp elt [⟨tg,iter,ifs,0⟩] scope pos) 0 itv acc { cenv with scope:=relabel scope X.env }) (compPost (model X.prog X.w) X.A X.xe use QQ acc cenv.locals) s₄) X.xe s₃) X.xe s2) h fun it fp tn J H1 I2 T st2 f2 hR=>?_
 clear h
 obtain ⟨W,⟨m0,w0⟩,turn⟩:=hR
 have hfl:∀ b∈fp,b < s2.heap.objs.size:=fun b hb=>by
  obtain ⟨o,e,_⟩:=T.obj _ _ st2 b hb
  exact Heap.lt_size e
 refine wpAny_newObj_type (wpAny_newFunctionEnv S.nocell (by intro y hy; simp at hy) (fun h₁ hns₁ hsb₁=>?_) S.kind)
 dsimp only at hns₁ hsb₁ ⊢
 generalize hH2:s2.heap.push { cls:=.type "list",dict:=none,data:=.seq ([]:List Value).toArray }=P2 at hns₁ hsb₁ ⊢
 have hC:P2.objs.size=s2.heap.objs.size + 1:=by rw [<- hH2,Heap.size_push]
 have hDC:s2.heap.objs.size≠P2.objs.size:=by rw [hC]; exact Nat.ne_of_lt (Nat.lt_succ_self _)
 have hCle:s2.heap.objs.size<=P2.objs.size:=by rw [hC]; exact Nat.le_succ _
 have below:∀ b,b < s2.heap.objs.size->b≠P2.objs.size:=fun b hb=>by rw [hC]; exact Nat.ne_of_lt (Nat.lt_succ_of_lt hb)
 have old:∀ b o,s2.heap.get? b=some o->h₁.get? b=some o:=fun b o e=>hsb₁.extBut b o (below b (Heap.lt_size e)) (Heap.get?_push_of_some _ (hH2 ▸ Heap.get?_push_of_some _ e))
 have hacc:h₁.get? s2.heap.objs.size=some (lob [] 0):=hsb₁.extBut _ _ hDC (Heap.get?_push_of_some _ (hH2 ▸ Heap.get?_push_size _ rfl))
 generalize P2.objs.size=C at *
 generalize hDD:s2.heap.objs.size=D at *
 have neP:∀ p∈X.pn ++ pins,p.1≠D /\ p.1≠C:=fun p hp=>by
  have:=Heap.lt_size (I2.pin p hp).1
  rw [hDD] at this
  exact ⟨Nat.ne_of_lt this,Nat.ne_of_lt (Nat.lt_of_lt_of_le this hCle)⟩
 have DnF:D∉fp:=fun hb=>Nat.lt_irrefl _ (hfl D hb)
 have CnF:C∉fp:=fun hb=>absurd (Nat.lt_of_lt_of_le (hfl C hb) hCle) (Nat.lt_irrefl _)
 have cellD:∀ a c,X.env.cells.lookup a=some c->c≠D /\ c≠C:=fun a c e=>by
  obtain ⟨v,q⟩:=I2.cell a c e
  have:=q.lt
  rw [hDD] at this
  exact ⟨Nat.ne_of_lt this,Nat.ne_of_lt (Nat.lt_of_lt_of_le this hCle)⟩
 have locD:X.env.locals < D:=by have:=I2.lt; rw [hDD] at this; exact this
 have s0D:X.s₀.heap.objs.size<=D:=by rw [<- hDD]; exact I2.sz
 have I3:=zhI (s3:={ s2 with heap:=h₁,toks:=s2.toks + ([]:List (Str×Value)).length }) S I2 (by rw [hDD]; exact hCle) h1 h2 f2 (by rw [hDD]; exact hfl) rfl rfl old hns₁
 have stat:∀ {H':Hp} {pp:List (Addr×Obj)},(∀ p∈pp,p.1∉fp)->(∀ b∈fp,H' b=none)->∀ b∈fp,FpOk (compCx X scope N' cl C s2 H1 fp pins) pp H' b:=fun {H' pp} hpp hn b hb=>by
  obtain ⟨f0,f1,f3,f4,f5,f6⟩:=f2 b hb
  refine ⟨hn b hb,fun z=>CnF (by rw [<- show b=C from z]; exact hb),fun z=>?_,.inl hb,fun a c e=>f5 a c (h1 _ _ e),fun p hp=>?_⟩
  ·rcases List.mem_cons.mp (I2.stkSub b z) with q | q
   ·exact f1 q
   ·exact f3 q
  ·rcases List.mem_append.mp hp with q | q
   ·exact f6 p q
   ·intro z; exact hpp p q (by rw [z]; exact hb)
 have DnS:∀ b,D<=b->b∉frs X.stack:=fun b hb z=>by
  rcases List.mem_cons.mp (I2.stkSub b z) with q | q
  ·rw [q] at hb; exact absurd (Nat.lt_of_lt_of_le locD hb) (Nat.lt_irrefl _)
  ·exact I2.nofs (by rw [hDD]; exact hb) q
 have loop:∀ s₃:Shared,s₃={ s2 with heap:=h₁,toks:=s2.toks + ([]:List (Str×Value)).length }->
   codeAny (model X.prog X.w) X.A (.compLoop (.ListComp elt [⟨tg,iter,ifs,0⟩] scope pos) 0 (.ref it) (.ref D) (compEnvC scope cl C X.env)) (compPost (model X.prog X.w) X.A X.xe use QQ (.ref D) C) s₃:=by
  rintro s₃ rfl
  refine zeE (CInv (compCx X scope N' cl C s2 H1 fp pins) D fp tn W) ?_ m0
   ⟨0,[],[],0,_,H1,?_,T.keep _ _ _ st2 (fun b hb o e=>old b o e),fun b hb=>(f2 b hb).1,w0,.nil⟩
  ·refine fun n s' z=>zms z fun i ys its k σ' H' t=>?_
   have I:=t.I
   have st:=t.st
   have fr:=t.fr
   have rv:=t.rv
   obtain ⟨hz,w⟩:=turn i n ys σ' H' t.w
   have pD:=I.pin (D,lob its k) (List.mem_append_right _ List.mem_cons_self)
   have hpp:∀ p∈[(D,lob its k)],p.1∉fp:=fun p hp=>by
    have e:p=(D,lob its k):=by simpa using hp
    rw [e]; exact DnF
   rcases w with ⟨stop,q⟩ | ⟨go,hz',step⟩
   ·refine wpAny_mono (T.done (compCx X scope N' cl C s2 H1 fp pins) rfl rfl rfl (hc _ _ _ _ _ _) i _ s' _ H' (fun _ _=>False) I (stat hpp fr) st stop) (fun r s1 hr=>?_) fun _ _ z=>z.elim
    obtain ⟨rfl,I1⟩:=hr
    obtain ⟨m,hn,_⟩:=I1.loc
    have p1:=I1.pin (D,lob its k) (List.mem_append_right _ List.mem_cons_self)
    have fC:H' C=none:=I1.free
    refine fin D C (upd H' D (.lst ys)) s1 m hn (by rw [zn (Ne.symm hDC)]; exact fC) (Nat.le_trans s0D hCle) (Nat.ne_of_gt (Nat.lt_of_lt_of_le locD hCle)) (fun a c e=>(cellD a c e).2) (fun p hp=>(neP p hp).2) (fun h' hs=>?_) (q D p1.2.1)
    exact zhP (N':=N') I2 (by rw [hDD]; exact hCle) (by rw [hDD]; exact Nat.le_refl _) f2 I1 rv hz hs hDC
   ·refine wpAny_mono (T.item (compCx X scope N' cl C s2 H1 fp pins) rfl rfl rfl (hc _ _ _ _ _ _) i _ s' _ H' (fun _ _=>False) I (stat hpp fr) st go) (fun r s4 hr=>?_) fun _ _ z=>z.elim
    obtain ⟨u,rfl,h4⟩:=hr
    refine wpAny_mono h4 (fun _ s5 h5=>?_) fun _ _ z=>z.elim
    obtain ⟨v,H5,I5,r5,y5,st5,fr5⟩:=h5
    have I5':=I5.pinned (stat hpp fr5) (T.obj _ _ st5)
    refine wpAny_mono (hg cl C s2 H1 fp pins _ s5 σ' H5 v u _ I5' r5 (step v H5 y5)) (fun _ s6 h6=>?_) fun _ _ z=>z.elim
    obtain ⟨τ2,H6,I6,q6⟩:=h6
    have gone:∀ {τ:St} {H9:Hp} {s9:Shared},Inv (compCx X scope N' cl C s2 H1 fp pins) ([(D,lob its k)] ++ pinsAt fp s5.heap) τ H9 s9->tn (i + 1) s9.heap /\ ∀ b∈fp,H9 b=none:=fun {τ H9 s9} I9=>
     ⟨T.keep _ _ _ st5 fun b hb o e=>(I9.pin (b,o) (List.mem_append_right _ (List.mem_append_right _ (zaN hb e)))).1,fun b hb=>by
      obtain ⟨o,e,d⟩:=T.obj _ _ st5 b hb
      exact (I9.pin (b,o) (List.mem_append_right _ (List.mem_append_right _ (zaN hb e)))).2.1⟩
    refine wpAny_mono (hf cl C s2 H1 fp pins _ s6 τ2 H6 _ I6 q6) (fun ok s6' h6'=>?_) fun _ _ z=>z.elim
    obtain ⟨H6',I6',q6'⟩:=h6'
    cases ok with
    | false=>
      rw [if_neg Bool.false_ne_true] at q6' ⊢
      obtain ⟨m',hm',w7⟩:=q6'
      obtain ⟨g1,g2⟩:=gone I6'
      exact ⟨m',hm',i + 1,ys,its,k,τ2,H6',I6'.pins_of fun p hp=>I6'.pin p (List.mem_append_right _ (List.mem_append_left _ hp)),g1,g2,w7,rv⟩
    | true=>
    rw [if_pos rfl] at q6' ⊢
    refine wpAny_mono (helt cl C s2 H1 fp pins _ s6' τ2 H6' _ I6' q6') (fun y s7 h7=>?_) fun _ _ z=>z.elim
    obtain ⟨yv,H7,I7,r7,m',hm',w7⟩:=h7
    have p7:=I7.pin (D,lob its k) (List.mem_append_right _ (List.mem_append_left _ List.mem_cons_self))
    have hl:=rv.length
    refine call_meets F.slot_list_append ⟨_,p7.1,rfl⟩ F.entry_list_append (F.args_list_append_2 _ _) (PySem.list_append D its.toArray k y (by rw [List.size_toArray]; omega)) ⟨p7.1,?_⟩
    have q:=PySem.IsL.update p7.1 (·.push y)
    have keepB:∀ b o,b≠D->s7.heap.get? b=some o->(s7.heap.update D (Obj.mapSeq (·.push y))).get? b=some o:=fun b o hb e=>(Heap.get?_update_other s7.heap _ (Ne.symm hb)).trans e
    have I8:Inv (compCx X scope N' cl C s2 H1 fp pins) (pinsAt fp s5.heap) τ2 H7 s7:=I7.pins_of fun p hp=>I7.pin p (List.mem_append_right _ (List.mem_append_right _ hp))
    have I9:Inv (compCx X scope N' cl C s2 H1 fp pins) (pinsAt fp s5.heap) τ2 H7 { s7 with heap:=s7.heap.update D (Obj.mapSeq (·.push y)) }:=I8.turned (t':=s7.toks) (it:=D) keepB p7.2.1 hDC (.inr (by show s2.heap.objs.size<=D; rw [hDD]; exact Nat.le_refl _)) (fun a c e=>(cellD a c (h1 _ _ e)).1) fun p hp z=>by
     rcases List.mem_append.mp hp with z' | z'
     ·exact (neP p z').1 z
     ·exact DnF (by rw [<- z]; exact (zeo z').1)
    refine ⟨m',hm',i + 1,ys ++ [yv],its ++ [y],(if (its.toArray.push y).size == its.toArray.size then k else k + 1),τ2,H7,I9.pins_of (pins':=[(D,lob (its ++ [y]) ((if (its.toArray.push y).size == its.toArray.size then k else k + 1)))]) fun p hp=>?_,T.keep _ _ _ st5 fun b hb o e=>?_,fun b hb=>?_,w7,rv.append (.cons r7 .nil)⟩
    ·have e:p=(D,lob (its ++ [y]) ((if (its.toArray.push y).size == its.toArray.size then k else k + 1))):=by simpa using hp
     subst e
     refine ⟨by rw [q,List.push_toArray],p7.2.1,hDC,DnS D (Nat.le_refl _),fun v z=>by cases z⟩
    ·have pb:=I7.pin (b,o) (List.mem_append_right _ (List.mem_append_right _ (zaN hb e)))
     exact keepB b o (fun z=>DnF (by rw [<- z]; exact hb)) pb.1
    ·obtain ⟨o,e,d⟩:=T.obj _ _ st5 b hb
     exact (I7.pin (b,o) (List.mem_append_right _ (List.mem_append_right _ (zaN hb e)))).2.1
  ·exact I3.pins_of fun p hp=>by
    have e:p=(D,lob [] 0):=by simpa using hp
    subst e
    exact ⟨hacc,I2.hok.fresh (by rw [hDD]; exact Nat.le_refl _),hDC,DnS D (Nat.le_refl _),fun v z=>by cases z⟩
 exact codeAny_compStart_list (loop _ rfl) (T.self _ 0 _ _ _ (T.keep _ _ _ st2 fun b hb o e=>old b o e) (loop _ rfl))
theorem zgW (S:CompScL X scope xs ix N') {gd:Cx->Prop} (hc:∀ cl C s2 H2 fp pins,gd (compCx X scope N' cl C s2 H2 fp pins)) (hi:PIG gd X tg iter wi) (hg:∀ cl C s2 H2 fp pins,PG (compCx X scope N' cl C s2 H2 fp pins) tg g) (hf:∀ cl C s2 H2 fp pins,PF (compCx X scope N' cl C s2 H2 fp pins) ifs tc) (helt:∀ cl C s2 H2 fp pins,PE (compCx X scope N' cl C s2 H2 fp pins) elt te)
  (hs:∀ x,foldedSetIterable iter X.env x=pure x):PE X (.ListComp elt [⟨tg,iter,ifs,0⟩] scope pos) (tCompL wi xs.length ix g tc te):=by
 intro pins s σ H Q I h
 obtain ⟨cl,hcl,h1,h2⟩:=zc3 (scope:=scope) (env:=X.env) (fun y hy hk=>I.ok.has y.1 (S.free y hy hk))
 rw [eval_ListComp]
 refine wpAny_comprehension_free (use:=none) rfl hs hcl S.kind S.names (wpAny_mono (hi pins s σ H _ I h) (fun xv s₁ h₁=>wpAny_mono h₁ (fun it s₂ h₂=>?_) fun _ _ e=>e) fun _ _ e=>e)
 exact zeB S hc hg hf helt h₂ h1 h2 fun D C H' s1 m hn fC c1 c2 c3 c4 hI q=>⟨m,hn,fun h' hs'=>⟨.ref D,H',hI h' hs',rfl,q⟩⟩
theorem zev {i:Nat} {y:Str} {py spos:Pos} (S:CompScL X scope xs ix N') {gd:Cx->Prop} (hc:∀ cl C s2 H2 fp pins,gd (compCx X scope N' cl C s2 H2 fp pins)) (hi:PIG gd X tg iter wi) (hg:∀ cl C s2 H2 fp pins,PG (compCx X scope N' cl C s2 H2 fp pins) tg g) (hf:∀ cl C s2 H2 fp pins,PF (compCx X scope N' cl C s2 H2 fp pins) ifs tc) (helt:∀ cl C s2 H2 fp pins,PE (compCx X scope N' cl C s2 H2 fp pins) elt te)
  (hs:∀ x,foldedSetIterable iter X.env x=pure x) (hN0:X.N.Nodup) (hi0:X.N[i]?=some y) (hy:X.env.scope.names.lookup y=some .local) (hsw:swapsWith (.ListComp elt [⟨tg,iter,ifs,0⟩] scope pos) (some (.Name y py)) spos.line X.env=pure true):
  PS X (.Assign [.Name y py] (.ListComp elt [⟨tg,iter,ifs,0⟩] scope pos) spos) (tAsg (tCompL wi xs.length ix g tc te) (gName i)):=by
 intro pins s σ H D I h
 obtain ⟨cl,hcl,h1,h2⟩:=zc3 (scope:=scope) (env:=X.env) (fun y hy hk=>I.ok.has y.1 (S.free y hy hk))
 rw [exec_Assign_Name_used _ _ _ _ hsw]
 refine wpAny_bind (wpAny_standAt (wpAny_bind ?_))
 show wpAny _ X.A (do let _ <- comprehension (.ListComp elt [⟨tg,iter,ifs,0⟩] scope pos) scope X.env _ (newList []) false (eval iter X.env) (some (assign (.Name y py) X.env))) _ _ s
 refine wpAny_bind (wpAny_mono (wpAny_comprehension_free (use:=some (assign (.Name y py) X.env)) (Q:=fun _ s'=>SP X pins D .next s') rfl hs hcl S.kind S.names
  (wpAny_mono (hi pins s σ H _ I h) (fun xv s₁ h₁=>wpAny_mono h₁ (fun it s₂ h₂=>?_) fun _ _ e=>e) fun _ _ e=>e)) (fun _ s' hq=>wpAny_pure (wpAny_pure hq)) fun _ _ e=>e)
 refine zeB S hc hg hf helt h₂ h1 h2 fun A C H' s1 m hn fC c1 c2 c3 c4 hI q=>?_
 have I1:Inv X pins σ H' s1:=hI s1.heap (.refl ..)
 refine wpAny_assign_Name (zeu I1 hN0 hi0 (.inl hy) (show RelV (.ref A) (.ref A) from rfl) (fun s3 I3 ch=>?_) (.inr hy))
 obtain ⟨a,hs3,ha⟩:=ch
 have hCa:C≠a:=by
  rcases ha with z | z
  ·rw [z]; exact c2
  ·intro e; exact c3 y a z e.symm
 refine ⟨m,hn.sameBut hs3 hCa,fun h' hs'=>?_⟩
 exact ⟨_,H',I3.turned (t':=s3.toks) (it:=C) (fun b o hb e=>(hs'.2 b hb).trans e) fC c2 (.inr c1) c3 c4,q⟩
end
noncomputable def compChkL (sc scope:Scope) (N:List Str) (xs:List Str) (ix:List Nat) (N':List Str):Bool:=
 (scope.kind == .function) && scope.names.all (fun y=> !(y.2 == .cell)) && scope.names.all (fun y=> !(y.2 == .local) || (scope.names.lookup y.1 == some .local))
 && scope.names.all (fun y=> !(y.2 == .free) || (sc.names.lookup y.1 == some .cell || sc.names.lookup y.1 == some .free))
 && (relN sc scope).all (fun y=> !(y.2 == .cell || y.2 == .free) || scope.names.any (fun z=>z.1 == y.1 && z.2 == .free))
 && (N' == xs ++ ix.map fun j=>N.getD j "") && ix.all (fun j=>decide (j < N.length) && scope.names.any (fun z=>z.1 == N.getD j "" && z.2 == .free) && ((relN sc scope).lookup (N.getD j "") == some .cell || (relN sc scope).lookup (N.getD j "") == some .free))
theorem zbX {sc scope:Scope} {N:List Str} {xs:List Str} {ix:List Nat} {N':List Str} (h:compChkL sc scope N xs ix N'=true) (e1:X.env.scope=sc) (e2:X.N=N):CompScL X scope xs ix N':=by
 subst e1 e2
 unfold compChkL at h
 simp only [Bool.and_eq_true,List.all_eq_true,Bool.or_eq_true,Bool.not_eq_true',List.any_eq_true,decide_eq_true_eq,beq_iff_eq,beq_eq_false_iff_ne] at h
 obtain ⟨⟨⟨⟨⟨⟨a1,a2⟩,a3⟩,a5⟩,a6⟩,a7⟩,a8⟩:=h
 refine ⟨a1,a2,fun y hy hk=>(a3 y hy).elim (fun z=>absurd hk z) id,fun y hy hk=>(a5 y hy).elim (fun z=>absurd hk z) id,fun n _ hn=>?_,a7,fun j hj=>?_⟩
 ·have:∃ k,(n,k)∈relN X.env.scope scope /\ (k=NameKind.cell \/ k=NameKind.free):=by
   rcases hn with z | z
   ·exact ⟨_,zcb z,.inl rfl⟩
   ·exact ⟨_,zcb z,.inr rfl⟩
  obtain ⟨k,hk,hk2⟩:=this
  rcases a6 (n,k) hk with z | ⟨z,hz,e1,e2⟩
  ·exfalso
   simp at z
   rcases hk2 with q | q
   ·exact z.1 q
   ·exact z.2 q
  ·obtain ⟨z1,z2⟩:=z
   cases e1; cases e2; exact hz
 ·obtain ⟨⟨b1,⟨z,hz,e1,e2⟩⟩,b3⟩:=a8 j hj
  refine ⟨b1,?_,b3⟩
  obtain ⟨z1,z2⟩:=z
  cases e2
  have e1':z1=X.N.getD j "":=e1
  rw [<- e1']; exact hz
end
end L2
namespace L2
open PySem PySem.Spec PyProof.Rows LS
noncomputable def fltD (f:D->Option (Option D)):List D->Option (List D)
 | []=>some []
 | d :: ds=>(f d).bind fun o=>(fltD f ds).bind fun xs=>some (match o with | some x=>x :: xs | none=>xs)
noncomputable def gCompL (gi:DS->Option (List D)) (k:Nat) (ix:List Nat) (gt:D->DS->Option DS) (gc:DS->Option Bool) (ge:DS->Option D):DS->Option (List D):=fun δ=>(gi δ).bind fun ds=>if ds.length<=100000 then
 fltD (fun d=>(gt d (List.replicate k none ++ captD ix δ)).bind fun δ1=>(gc δ1).bind fun b=>if b=true then (ge δ1).map some else some none) ds else none
noncomputable def Own (k:Nat) (gt:D->DS->Option DS):Prop:=∀ d c δ1,gt d (List.replicate k none ++ c)=some δ1->∃ own:DS,own.length=k /\ δ1=own ++ c
theorem own1:Own 1 (gName' 0):=fun d c δ1 h=>by cases h; exact ⟨[some d],rfl,rfl⟩
set_option tactic.hygienic true in
theorem own2:Own 2 (gTupT 2 (gConsT (gName' 0) (gConsT (gName' 1) gNilT))):=fun d c δ1 h=>by
 unfold gTupT at h
 split at h
 ·split at h
  ·rename_i ds hl
   match ds,hl with
   | [a,b],_=>cases h; exact ⟨[some a,some b],rfl,rfl⟩
  ·cases h
 ·cases h
section
variable {K:PySem.W.Frag} {O:List Nat} {U A0:List Addr} {σ:St} {δ:DS} {H H1:Hp}
theorem Rel.weak {own c:DS} (R:Rel K [] U A0 σ (own ++ c) H):Rel K [] U A0 σ (List.replicate own.length none ++ c) H where
 len:=by rw [R.len]; simp
 fz:=fun i e hi q=>by
  by_cases h:i < own.length
  ·rw [List.getElem?_append_left (by simpa using h),List.getElem?_replicate,if_pos h] at q
   cases q
  ·refine R.fz i e hi ?_
   rw [List.getElem?_append_right (by simpa using h)] at q
   rw [List.getElem?_append_right (by omega)]
   simpa using q
 ow:=fun i e hi=>by simp at hi
 inj:=fun i j d e l hi=>by simp at hi
 al:=R.al
theorem Rel.captL (R:Rel K O U A0 σ δ H) {ix:List Nat} (k:Nat) (hix:∀ j∈ix,j∉O):Rel K [] U A0 (List.replicate k none ++ L2.capt ix σ) (List.replicate k none ++ captD ix δ) H where
 len:=by simp [L2.capt,captD]
 fz:=fun i e _ q=>by
  by_cases h:i < k
  ·rw [List.getElem?_append_left (by simpa using h),List.getElem?_replicate,if_pos h] at q
   cases q
  ·rw [List.getElem?_append_right (by simpa using h)] at q ⊢
   simp only [List.length_replicate] at q ⊢
   unfold captD at q
   unfold L2.capt
   rw [List.getElem?_map] at q ⊢
   cases ei:ix[i - k]? with
   | none=>rw [ei] at q; cases q
   | some j=>
     rw [ei] at q
     simp only [Option.map_some,Option.some.injEq] at q
     obtain ⟨u,hu,hd⟩:=R.fz j e (hix j (List.mem_of_getElem? ei)) (zB q)
     exact ⟨u,by simp [hu],hd⟩
 ow:=fun i e hi=>by simp at hi
 inj:=fun i j d e l hi=>by simp at hi
 al:=R.al
structure CB (K:PySem.W.Frag) (U A0:List Addr) (H1:Hp) (ds xs:List D) (F:D->Option (Option D)) (base:DS) (i:Nat) (ys:List V) (τ:St) (H2:Hp) (zs rest:List D):Prop where
 le:i<=ds.length
 s:Same H1 H2
 R:Rel K [] U A0 τ base H2
 yl:ys.length<=i
 hz:HDs K (wo H2 (U ++ A0)) ys zs
 he:fltD F (ds.drop i)=some rest
 hx:zs ++ rest=xs
noncomputable def CBW (K:PySem.W.Frag) (U A0:List Addr) (H1:Hp) (ds xs:List D) (F:D->Option (Option D)) (base:DS) (i m:Nat) (ys:List V) (τ:St) (H2:Hp):Prop:=m=ds.length - i /\ ∃ zs rest,CB K U A0 H1 ds xs F base i ys τ H2 zs rest
theorem zhO {J:It} {ix:List Nat} {k:Nat} {gt:D->DS->Option DS} {gc:DS->Option Bool} {ge:DS->Option D} {ds xs:List D} {Q:VK} (own:Own k gt) (R:Rel K O U A0 σ δ H) (s:Same H H1) (hix:∀ j∈ix,j∉O) (hw:WalksS K (U ++ A0) H1 J ds)
  (hl:ds.length<=100000) (e:fltD (fun d=>(gt d (List.replicate k none ++ captD ix δ)).bind fun δ1=>(gc δ1).bind fun b=>if b=true then (ge δ1).map some else some none) ds=some xs)
  (q:∀ r ys H',Same H H'->H r=none->H' r=some (.lst ys)->HDs K (wo H' (r :: (U ++ A0))) ys xs->Q (.ref r) H'):cBlockL J k ix (tG K [] gt) (tT K [] gc) (tE K [] ge) σ H1 Q:=by
 have big:(100000:Nat) < sizeLine:=by decide
 obtain ⟨F,hF⟩:∃ F:D->Option (Option D),F=fun d=>(gt d (List.replicate k none ++ captD ix δ)).bind fun δ1=>(gc δ1).bind fun b=>if b=true then (ge δ1).map some else some none:=⟨_,rfl⟩
 rw [<- hF] at e
 refine ⟨CBW K U A0 H1 ds xs F (List.replicate k none ++ captD ix δ),⟨ds.length,rfl,[],xs,Nat.zero_le _,Same.refl _,(R.same s).captL k hix,Nat.le_refl _,.nil,e,rfl⟩,?_⟩
 rintro i m ys τ H2 ⟨rfl,zs,rest,w⟩
 have hle:=w.le
 have hyl:=w.yl
 have he:=w.he
 refine ⟨by omega,?_⟩
 obtain ⟨hgo,hstop⟩:=hw i H2 w.s
 by_cases hlt:i < ds.length
 ·obtain ⟨go,hyd⟩:=hgo _ (List.getElem?_eq_getElem hlt)
  rw [List.drop_eq_getElem_cons hlt,fltD] at he
  generalize ds[i]=d at hyd he
  obtain ⟨o,e1,e2⟩:=bind1 he
  obtain ⟨rs,e3,e4⟩:=bind1 e2
  rw [hF] at e1
  obtain ⟨δ1,f1,f2⟩:=bind1 e1
  obtain ⟨b,f3,f4⟩:=bind1 f2
  obtain ⟨own1,ol,oe⟩:=own d _ δ1 f1
  refine .inr ⟨go,by omega,fun v H3 y=>?_⟩
  obtain ⟨s3,hv⟩:=hyd v H3 y
  refine ⟨U,A0,_,d,δ1,w.R.same s3,hv,f1,fun τ2 R3=>⟨U,A0,δ1,b,R3,f3,fun H4 s4=>?_⟩⟩
  have wk:∀ {H':Hp},Same H3 H'->Rel K [] U A0 τ2 (List.replicate k none ++ captD ix δ) H':=fun {H'} s'=>by
   rw [<- ol]
   rw [oe] at R3
   exact (R3.same s').weak
  have lt:ds.length - (i + 1) < ds.length - i:=Nat.sub_lt_sub_left hlt (Nat.lt_succ_self i)
  cases b with
  | true=>
    rw [if_pos rfl] at f4
    dsimp only
    rw [if_pos rfl]
    cases eg:ge δ1 with
    | none=>rw [eg] at f4; cases f4
    | some x=>
      rw [eg] at f4; cases f4
      cases e4
      exact ⟨U,A0,δ1,x,R3.same s4,eg,fun u H5 s5 hu=>⟨_,lt,rfl,zs ++ [x],rs,hlt,((w.s.trans s3).trans s4).trans s5,wk (s4.trans s5),by rw [List.length_append]; exact Nat.succ_le_succ hyl,(w.hz.same (zac ((s3.trans s4).trans s5))).app (.cons hu .nil),e3,by rw [<- w.hx,List.append_assoc]; rfl⟩⟩
  | false=>
    rw [if_neg Bool.false_ne_true] at f4
    dsimp only
    rw [if_neg Bool.false_ne_true]
    cases f4
    cases e4
    exact ⟨_,lt,rfl,zs,rs,hlt,(w.s.trans s3).trans s4,wk s4,Nat.le_succ_of_le hyl,w.hz.same (zac (s3.trans s4)),e3,w.hx⟩
 ·have hi:i=ds.length:=Nat.le_antisymm hle (Nat.le_of_not_lt hlt)
  subst hi
  rw [List.drop_length,fltD] at he
  cases he
  have hx:=w.hx
  rw [List.append_nil] at hx
  subst hx
  exact .inl ⟨hstop rfl,fun p hp=>zg2 (s.trans w.s) q p ys hp w.hz⟩
end
section
variable {X:Cx} {O:List Nat} {fr:Fr} {scope:Scope} {elt iter tg:Expr} {ifs:List Expr} {pos:Pos} {gi:DS->Option (List D)} {ge:DS->Option D} {gt:D->DS->Option DS} {gc:DS->Option Bool} {k:Nat}
theorem PF.mono {t t':TT} (h:PF X ifs t) (m:∀ σ H Q,t' σ H Q->t σ H Q):PF X ifs t':=fun pins s σ H Q I q=>h pins s σ H Q I (m σ H Q q)
theorem zbl:PF X [] (tT X.K O fun _=>some true):=zmF.mono fun σ H Q hh=>hh.e fun U A0 δ b R e q=>by cases e; exact q H (Same.refl H)
set_option tactic.hygienic true in
theorem zdw {K:PySem.W.Frag} {ix:List Nat} (own:Own k gt) (hix:∀ j∈ix,j∉O) {σ:St} {H:Hp} {Q:VK}:tN K O (gCompL gi k ix gt gc ge) σ H Q->tCompL (tIc K O gi) k ix (tG K [] gt) (tT K [] gc) (tE K [] ge) σ H Q:=fun ⟨U,A0,δ,xs,R,ed,q⟩=>by
 obtain ⟨ds,e1,e2⟩:=bind1 ed
 split at e2
 ·rename_i hl
  exact ⟨U,A0,δ,ds,R,e1,fun J H1 s hw=>zhO own R s hix hw hl e2 q⟩
 ·cases e2
theorem zaD (sc:Scope) (N:List Str) (ix:List Nat) (N' xs:List Str) (own:Own k gt) (hi:PI X tg iter (tIc X.K O gi)) (hg:∀ cl C s2 H2 fp pins,PG (compCx X scope N' cl C s2 H2 fp pins) tg (tG X.K [] gt)) (hf:∀ cl C s2 H2 fp pins,PF (compCx X scope N' cl C s2 H2 fp pins) ifs (tT X.K [] gc))
  (helt:∀ cl C s2 H2 fp pins,PE (compCx X scope N' cl C s2 H2 fp pins) elt (tE X.K [] ge)) (hix:∀ j∈ix,j∉O:=by decide) (hk:compChkL sc scope N xs ix N'=true:=by decide +kernel) (hl:xs.length=k:=by rfl)
  (e1:X.env.scope=sc:=by rfl) (e2:X.N=N:=by rfl) (hc:X.calm=true:=by rfl) (hs:∀ x,foldedSetIterable iter X.env x=pure x:=by intro _; rfl):PE X (.ListComp elt [⟨tg,iter,ifs,0⟩] scope pos) (tN X.K O (gCompL gi k ix gt gc ge)):=by
 subst hl
 exact (zgW (gd:=calmG) (zbX hk e1 e2) (fun _ _ _ _ _ _=>hc) hi hg hf helt hs).mono fun _ _ _=>zdw own hix
theorem zfE {i:Nat} {y:Str} {py spos:Pos} (sc:Scope) (N:List Str) (ix:List Nat) (N' xs:List Str) (hN0:X.N.Nodup) (hi0:X.N[i]?=some y) (hy:X.env.scope.names.lookup y=some .local) (own:Own k gt) (hi:PI X tg iter (tIc X.K O gi))
  (hg:∀ cl C s2 H2 fp pins,PG (compCx X scope N' cl C s2 H2 fp pins) tg (tG X.K [] gt)) (hf:∀ cl C s2 H2 fp pins,PF (compCx X scope N' cl C s2 H2 fp pins) ifs (tT X.K [] gc)) (helt:∀ cl C s2 H2 fp pins,PE (compCx X scope N' cl C s2 H2 fp pins) elt (tE X.K [] ge))
  (hix:∀ j∈ix,j∉O:=by decide) (hk:compChkL sc scope N xs ix N'=true:=by decide +kernel) (hl:xs.length=k:=by rfl)
  (e1:X.env.scope=sc:=by rfl) (e2:X.N=N:=by rfl) (hc:X.calm=true:=by rfl) (hs:∀ x,foldedSetIterable iter X.env x=pure x:=by intro _; rfl) (hsw:swapsWith (.ListComp elt [⟨tg,iter,ifs,0⟩] scope pos) (some (.Name y py)) spos.line X.env=pure true:=by rfl):
  PS X (.Assign [.Name y py] (.ListComp elt [⟨tg,iter,ifs,0⟩] scope pos) spos) (tAsg (tN X.K O (gCompL gi k ix gt gc ge)) (gName i)):=by
 subst hl
 exact (zev (gd:=calmG) (zbX hk e1 e2) (fun _ _ _ _ _ _=>hc) hi hg hf helt hs hN0 hi0 hy hsw).mono fun _ _ _ h=>zdw own hix h
end
theorem zc6:∀ {bs:List Bool} {its:List Value},Vals (bs.map V.bl) its->its=bs.map Value.bool
 | [],_,.nil=>rfl
 | b :: l,_,.cons r t=>by
   rw [List.map_cons,<- zc6 t]
   cases (show _=Value.bool b from r)
   rfl
theorem zhK {bs:List Bool}:(List.range bs.length).all (fun i=>bs.getD i true)=bs.all id:=by
 rw [Bool.eq_iff_iff,List.all_eq_true,List.all_eq_true]
 constructor
 ·intro h b hb
  obtain ⟨i,hi,e⟩:=List.getElem_of_mem hb
  have:=h i (List.mem_range.mpr hi)
  rw [List.getD_eq_getElem?_getD,List.getElem?_eq_getElem hi] at this
  rw [<- e]; exact this
 ·intro h i hi
  have hi:=List.mem_range.mp hi
  rw [List.getD_eq_getElem?_getD,List.getElem?_eq_getElem hi]
  exact h _ (List.getElem_mem hi)
theorem zhb {X:Cx} (hc:X.calm=true):CallR X (.builtin "all") (fun xs H Q=>∃ (p:Addr) (bs:List Bool),xs=[.ref p] /\ SqL X.K H p (bs.map V.bl) /\ Q (.bl (bs.all id)) H):=by
 intro pins s σ H xs us Q I r h
 obtain ⟨p,bs,rfl,hq,q⟩:=h
 obtain ⟨u,rfl,rx⟩:=vals1 r
 cases rx
 obtain ⟨its,rv,pl,_⟩:=I.list hq
 have e:=zc6 rv
 subst e
 have hlt:p≠s.heap.objs.size:=by
  obtain ⟨o,n,e1,_⟩:=pl
  exact Nat.ne_of_lt (Heap.lt_size e1)
 refine call_all_walk (wpAny_pyIter_list pl.isList ?_)
 refine ⟨s.heap.objs.size,[s.heap.objs.size,p],[s.heap.objs.size],_,_,_,fun i=>bs.getD i true,rfl,Walks.list (A:=X.A.in1) (I.ok.hd hc) _ p hlt (bs.map Value.bool).toArray,⟨⟨_,Heap.get?_push_size _ rfl,rfl,rfl⟩,pl.isList.push _⟩,fun i v s' Q' E' hP hQ=>?_,fun h' tk k=>?_⟩
 ·have hP':(bs.map Value.bool)[i]?=some v:=by simpa using hP
  rw [List.getElem?_map] at hP'
  cases eb:bs[i]? with
  | none=>rw [eb] at hP'; cases hP'
  | some b=>
    rw [eb] at hP'; cases hP'
    have hQ':Q' (bs.getD i true) s':=hQ
    rw [List.getD_eq_getElem?_getD,eb] at hQ'
    exact wpAny_truthy_bool hQ'
 ·have e:(List.range (bs.map Value.bool).toArray.size).all (fun i=>bs.getD i true)=bs.all id:=by rw [<- zhK]; simp
  rw [e]
  refine ⟨.bl _,H,I.kept (t':=tk) fun b o e=>k b o (fun z=>?_) (Heap.get?_push_of_some _ e),rfl,q⟩
  rw [List.mem_singleton] at z
  exact absurd (Heap.lt_size e) (by rw [z]; exact Nat.lt_irrefl _)
theorem zlv:bootBuiltins "all"=some (.builtin "all"):=by decide +kernel
noncomputable def boolsD:List D->Option (List Bool)
 | []=>some []
 | .bool i :: l=>(boolsD l).map (i :: ·)
 | _ :: _=>none
theorem zdj:∀ (ns:List Bool),boolsD (ns.map .bool)=some ns
 | []=>rfl
 | n :: ns=>by rw [List.map_cons,boolsD,zdj ns]; rfl
theorem zcy:∀ {l:List D} {ns:List Bool},boolsD l=some ns->l=ns.map .bool
 | [],_,h=>by cases h; rfl
 | d :: l,ns,h=>by
   cases d with
   | bool i=>
     rw [boolsD] at h
     cases e:boolsD l with
     | none=>rw [e] at h; cases h
     | some m=>rw [e] at h; cases h; rw [zcy e]; rfl
   | _=>cases h
theorem HDs.toBools {K:PySem.W.Frag} {H:Hp}:∀ {ns:List Bool} {xs:List V},HDs K H xs (ns.map PyData.bool)->xs=ns.map V.bl
 | [],_,h=>by cases h; rfl
 | n :: ns,_,h=>by
   rw [List.map_cons] at h
   cases h with
   | cons a t=>cases a; rw [HDs.toBools t]; rfl
noncomputable def dAll:List D->Option D
 | [.list l]=>(boolsD l).map fun bs=>.bool (bs.all id)
 | _=>none
set_option tactic.hygienic true in
theorem zkH {K:PySem.W.Frag}:ImpC K (fun xs H Q=>∃ (p:Addr) (bs:List Bool),xs=[.ref p] /\ SqL K H p (bs.map V.bl) /\ Q (.bl (bs.all id)) H) dAll:=by
 intro A H vs ds d Q al h e q
 unfold dAll at e
 split at e
 ·rename_i l
  cases eb:boolsD l with
  | none=>rw [eb] at e; cases e
  | some bs=>
    rw [eb] at e; cases e
    obtain ⟨v,rfl,h1⟩:=sh1 h
    obtain ⟨p,xs,rfl,h2,h3⟩:=h1.list
    rw [zcy eb] at h3
    rw [h3.toBools] at h2
    exact ⟨p,bs,rfl,h2.sq,q _ H (Same.refl H) (.bl _)⟩
 ·cases e
section
variable {X:Cx}
noncomputable def rCatT0 (K:PySem.W.Frag):R2:=fun x y H Q=>∃ a b ys,x=.ref a /\ y=.ref b /\ SqT K H a [] /\ SqT K H b ys /\ Q (.ref b) H
theorem zi7:OpR X (binaryOp .Add) (rCatT0 X.K):=by
 intro pins s σ H x y v u Q I rx ry h
 obtain ⟨a,b,ys,rfl,rfl,ha,hb,q⟩:=h
 cases rx
 cases ry
 obtain ⟨its,r1,p1,_⟩:=I.tuple ha
 obtain ⟨its2,r2,p2,_⟩:=I.tuple hb
 have e:=r1.nil_iff.mpr rfl
 subst e
 obtain ⟨⟨c1,d1,dt1,sl1⟩,ho,hc,n,hd⟩:=id p1
 obtain ⟨⟨c2,d2,dt2,sl2⟩,ho2,hc2,n2,hd2⟩:=id p2
 simp only at hc hd hc2 hd2
 subst hc hd hc2 hd2
 exact concat_meets ⟨_,ho,rfl⟩ ⟨_,ho2,rfl⟩ noFill_tuple_add seq_tuple_add PySem.F.slot_tuple_add PySem.F.entry_tuple_add (PySem.F.args_tuple_add_2 _ _) (tuple_addW0 a b #[] its2.toArray n n2 d1 d2 sl1 sl2 (by simp)) ⟨ho,ho2,⟨.ref b,H,I,rfl,q⟩⟩
end
noncomputable def dAddV (a b:D):Option D:=match a,b with
 | .tuple [],.tuple l=>some (.tuple l)
 | a,b=>dAdd a b
theorem zy {X:Cx}:OpR X (binaryOp .Add) (fun x y H Q=>rAddU X.K x y H Q \/ rCatT0 X.K x y H Q):=zkd.or zi7
theorem zp {K:PySem.W.Frag}:Imp2 K (fun x y H Q=>rAddU K x y H Q \/ rCatT0 K x y H Q) dAddV:=by
 intro A H x y dx dy d Q al hx hy e q
 unfold dAddV at e
 split at e
 ·cases e
  have hf:=hy.fz
  obtain ⟨a,xs,rfl,h1,h2⟩:=hx.tuple
  obtain ⟨b,zs,rfl,h3,h4⟩:=hy.tuple
  cases h2
  exact .inr ⟨a,b,zs,rfl,rfl,h1,h3,q _ H (Same.refl H) hf⟩
 ·exact .inl (zkY A H x y _ _ d Q al hx hy e q)
noncomputable def IteT (K:PySem.W.Frag) (a:Addr):It:=
 ⟨fun i H=>∃ xs x,SqT K H a xs /\ xs[i]?=some x,fun i H x H'=>∃ p v,H p=none /\ x=.ref p /\ H'=upd H p (.tup [.int i,v]) /\ ∀ xs,SqT K H a xs->xs[i]?=some v,fun i H=>∃ xs,SqT K H a xs /\ xs.length=i⟩
theorem zgB {P:Program} {w:World} {K:PySem.W.Frag} {es:List Expr} {kk} {tpos:Pos} (a e it:Addr) (hne:e≠it):Turn P w K (.Tuple es kk tpos) (IteT K a) [e,it] e (fun i h=>(∃ old,IsEnum h e it i old) /\ h.IsTupleIter it a i) where
 mem:=by simp
 obj:=fun i h st b hb=>by
  obtain ⟨⟨old,he⟩,o,ho,c,d⟩:=st
  rcases List.mem_cons.mp hb with z | z
  ·subst z; exact ⟨_,he,fun v z=>by cases z⟩
  ·have z:b=it:=by simpa using z
   subst z; exact ⟨o,ho,fun v z=>by rw [d] at z; cases z⟩
 keep:=fun i h h' st k=>by
  obtain ⟨⟨old,he⟩,st2⟩:=st
  exact ⟨⟨old,k e (by simp) _ he⟩,st2.at fun o eo=>k it (by simp) o eo⟩
 item:=by
  intro X hP hw hK hc i pins s σ H E I hf st hg
  subst hP hw hK
  obtain ⟨xs,x,hq,hx⟩:=hg
  obtain ⟨its,rv,p,hz⟩:=I.tuple hq
  obtain ⟨u,hu,ru⟩:=rv.get hx
  obtain ⟨⟨old,he⟩,st2⟩:=st
  have hp:s.heap.IsTuple a its.toArray:=p
  have hea:e≠a:=fun z=>by
   obtain ⟨o,ho,hcl,_⟩:=hp
   rw [<- z] at ho
   have:=ho.symm.trans he
   cases this
   exact absurd (Value.type.inj hcl) (by decide)
  have hia:a≠it:=fun z=>by
   obtain ⟨o,ho,hcl,_⟩:=hp
   obtain ⟨o2,ho2,hcl2,_⟩:=st2
   rw [z] at ho
   have:=ho.symm.trans ho2
   cases this
   rw [hcl] at hcl2
   exact absurd (Value.type.inj hcl2) (by decide)
  have hil:i < its.toArray.size:=by
   have:=(List.getElem?_eq_some_iff.mp hu).1
   simpa using this
  refine wpAny_pyNext_enum_itemD (zbo (A:=X.A.in1) (I.ok.hd hc) it a hia its.toArray) he ⟨st2,hp⟩ hil hne (by simp [hne,hea]) fun y h1 tk hy heo hst1 ht1 hz1 hk1=>?_
  have hyu:y=u:=by
   have h3:its.toArray[i]?=some u:=by simpa using hu
   have h4:its.toArray[i]?=some y:=hy
   rw [h3] at h4; cases h4; rfl
  subst hyu
  refine ⟨_,rfl,wpAny_letOwnedTupleGo_enum heo fun h2 he2 hs2=>?_⟩
  replace hs2:Heap.SameBut e h1 h2:=hs2
  have heH:e < s.heap.objs.size:=Heap.lt_size he
  have I1:Inv X pins σ H { s with heap:=h2,toks:=tk + 1 }:=I.turnedL (t':=tk + 1) (ch:=[e,it]) (fun b o hb eo=>by
   simp only [List.mem_cons,List.not_mem_nil,or_false,not_or] at hb
   exact (hs2.2 b hb.1).trans (hk1 b o hb.1 hb.2 eo)) hf
  have ht2:IsTup h2 s.heap.objs.size [Value.int i tk,y].toArray:=⟨_,(hs2.2 _ (Nat.ne_of_gt heH)).trans ht1,rfl,_,rfl⟩
  have hfr:H s.heap.objs.size=none:=I.hok.fresh (Nat.le_refl _)
  have fo:=I.fpOk (H':=H) (Nat.le_refl _) hfr
  have I2:Inv X pins σ (upd H s.heap.objs.size (.tup [.int i,x])) { s with heap:=h2,toks:=tk + 1 }:=I1.trackT hfr (Nat.le_trans I.sz (Nat.le_refl _)) fo.2.1 fo.2.2.2.2.1 fo.2.2.2.2.2 ht2 (.cons ⟨_,rfl⟩ (.cons ru .nil)) (by show 2<=sizeLine; decide)
  refine ⟨.ref s.heap.objs.size,_,I2,rfl,⟨_,x,hfr,rfl,rfl,fun ys hy=>by rw [I.tuple_inj hy hq]; exact hx⟩,⟨⟨y,he2⟩,hst1.1.extBut hs2.extBut (Ne.symm hne)⟩,fun b hb=>?_⟩
  have hlt:b < s.heap.objs.size:=by
   rcases List.mem_cons.mp hb with z | z
   ·subst z; exact heH
   ·have z:b=it:=by simpa using z
    subst z
    obtain ⟨o,ho,_⟩:=st2
    exact Heap.lt_size ho
  rw [zn (Nat.ne_of_lt hlt)]
  exact (hf b hb).1
 done:=by
  intro X hP hw hK hc i pins s σ H E I hf st hg
  subst hP hw hK
  obtain ⟨xs,hq,hx⟩:=hg
  obtain ⟨its,rv,p,hz⟩:=I.tuple hq
  obtain ⟨⟨old,he⟩,st2⟩:=st
  have hp:s.heap.IsTuple a its.toArray:=p
  have hia:a≠it:=fun z=>by
   obtain ⟨o,ho,hcl,_⟩:=hp
   obtain ⟨o2,ho2,hcl2,_⟩:=st2
   rw [z] at ho
   have:=ho.symm.trans ho2
   cases this
   rw [hcl] at hcl2
   exact absurd (Value.type.inj hcl2) (by decide)
  have hl:=rv.length
  have hsz:its.toArray.size=i:=by rw [List.size_toArray,<- hl]; exact hx
  refine wpAny_pyNext_enum_endD (zbo (A:=X.A.in1) (I.ok.hd hc) it a hia its.toArray) he ⟨by rw [hsz]; exact st2,hp⟩ fun h1 eb=>⟨rfl,?_⟩
  exact I.turnedL (t':=s.toks) (ch:=[e,it]) (fun b o hb eo=>eb b o (fun z=>hb (by simp [z])) eo) hf
 self:=fun _ _ _ _ _ st h=>by
  obtain ⟨⟨old,he⟩,_⟩:=st
  exact wpAny_pyIter_enum he h
section
variable {X:Cx} {O:List Nat} {a:Expr} {ge:DS->Option D} {p pos:Pos} {es:List Expr} {kk} {tpos:Pos}
noncomputable def iEnumT (K:PySem.W.Frag) (ta:TA):TI:=fun σ H R=>ta σ H fun vs H1=>∃ a xs,vs=[.ref a] /\ SqT K H1 a xs /\ R (IteT K a) H1
theorem ziL {ta:TA} (hg:Gl X "enumerate") (hm:X.mg "enumerate"=none) (ha:PA X [a] ta) (hs:starEach [a] X.env=[(false,eval a X.env)]:=by rfl):PI X (.Tuple es kk tpos) (.Call (.Name "enumerate" p) [a] [] pos) (iEnumT X.K ta):=by
 intro pins s σ H R I h
 refine Call_ (zbM I hg hm zbt (PyProof.Rows.callWith_type1 (thn (ha pos pins s σ H _ I h) fun us s1 ⟨vs,H1,I1,r1,q1⟩=>?_) hs rfl))
 obtain ⟨b,xs,e,hq,q⟩:=q1
 subst e
 obtain ⟨u,rfl,ru⟩:=vals1 r1
 cases ru
 obtain ⟨its,rv,pl,hz⟩:=I1.tuple hq
 refine zgE (show s1.heap.IsTuple b its.toArray from pl) fun h' he hit hsz hk=>?_
 refine wpAny_pyIter_enum he ?_
 refine ⟨s1.heap.objs.size + 1,[s1.heap.objs.size + 1,s1.heap.objs.size],_,_,H1,rfl,I1.kept (t':=s1.toks) hk,zgB b _ s1.heap.objs.size (Nat.succ_ne_self _),⟨⟨_,he⟩,hit⟩,fun b hb=>?_,q⟩
 have hle:s1.heap.objs.size<=b:=by
  simp only [List.mem_cons,List.not_mem_nil,or_false] at hb
  rcases hb with z | z
  ·rw [z]; exact Nat.le_succ _
  ·rw [z]; exact Nat.le_refl _
 exact I1.fpOk hle (I1.hok.fresh hle)
noncomputable def gEnumT (g:DS->Option D):DS->Option (List D):=fun δ=>(g δ).bind fun | .tuple l=>some (enumD l) | _=>none
theorem zfY (hm:X.mg "enumerate"=none) (ha:PE X a (tE X.K O ge)) (hg:Gl X "enumerate":=by rfl) (hs:starEach [a] X.env=[(false,eval a X.env)]:=by rfl) (hs0:starEach ([]:List Expr) X.env=[]:=by rfl):PI X (.Tuple es kk tpos) (.Call (.Name "enumerate" p) [a] [] pos) (tI X.K O (gEnumT ge)):=
 (ziL hg hm (zC ha zY (by rw [hs,hs0])) hs).mono fun σ H Q hh=>hh.e fun U A0 δ ds R ed q=>by
  obtain ⟨x,e1,e2⟩:=bind1 ed
  cases x with
  | tuple l=>
    cases e2
    refine ⟨U,A0,δ,_,R,e1,fun v H' s h=>?_⟩
    cases h with
    | tup hq h=>
      refine ⟨_,_,rfl,.inl (zZ.tupT hq),q _ H' s ?_⟩
      intro A' i H2 s2 al
      have h2:=h.same s2
      have hL:SqT X.K H2 _ _:=.inl (zZ.tupT (s2.tupT hq))
      refine ⟨fun d hd=>?_,fun hi=>⟨_,hL,by rw [hi,zcW,h2.len]⟩⟩
      obtain ⟨y,hy,rfl⟩:=zd4 hd
      obtain ⟨v,hv,hvd⟩:=h2.get hy
      refine ⟨⟨_,v,hL,hv⟩,fun z H3 hz=>?_⟩
      obtain ⟨p,v',hp,rfl,rfl,hv'⟩:=hz
      have:=hv' _ hL
      rw [hv] at this
      cases this
      exact ⟨zI hp _,HD.newT al hp (.cons (.int _) (.cons hvd .nil))⟩
  | _=>cases e2
end
end L2
namespace L2
open PySem PySem.Spec PyProof.Rows
noncomputable def keyOf1:D->Option Key
 | .int i=>some (.inl i)
 | .str x=>some (.inr x)
 | _=>none
noncomputable def keysOf:List D->Option (List Key)
 | []=>some []
 | d :: ds=>(keyOf1 d).bind fun k=>(keysOf ds).bind fun ks=>some (k :: ks)
noncomputable def keyOf:D->Option (List Key)
 | .tuple ds=>keysOf ds
 | _=>none
theorem zbc:∀ k:List Key,keysOf (k.map keyD)=some k
 | []=>rfl
 | .inl i :: k=>by rw [List.map_cons,keysOf,zbc k]; rfl
 | .inr i :: k=>by rw [List.map_cons,keysOf,zbc k]; rfl
theorem zd1 {K:PySem.W.Frag} {H:Hp}:∀ {xs:List V} {ds:List D} {k:List Key},HDs K H xs ds->keysOf ds=some k->xs=k.map kV
 | _,_,_,.nil,e=>by cases e; rfl
 | _,_,_,.cons h t,e=>by
   rw [keysOf] at e
   obtain ⟨a,e1,e2⟩:=bind1 e
   obtain ⟨b,e3,e4⟩:=bind1 e2
   cases e4
   rw [zd1 t e3,List.map_cons]
   cases h with
   | int i=>cases e1; rfl
   | str x=>cases e1; rfl
   | _=>cases e1
noncomputable def dLook (kds:List (D×D)) (k:List Key):Option D:=(kds.find? fun p=>decide (keyOf p.1=some k)).map (·.2)
noncomputable def dPutD (kds:List (D×D)) (k:List Key) (d:D):List (D×D):=
 if (kds.any fun p=>decide (keyOf p.1=some k))=true then kds.map (fun p=>if keyOf p.1=some k then (p.1,d) else p) else kds ++ [(.tuple (k.map keyD),d)]
theorem zal {p:D×D} {r:List (D×D)} {k:List Key} (e:keyOf p.1=some k):dLook (p :: r) k=some p.2:=by simp [dLook,List.find?_cons,e]
theorem zam {p:D×D} {r:List (D×D)} {k:List Key} (e:¬ keyOf p.1=some k):dLook (p :: r) k=dLook r k:=by simp [dLook,List.find?_cons,e]
theorem zbL (k:List Key):∀ kds:List (D×D),(kds.any fun p=>decide (keyOf p.1=some k))=(dLook kds k).isSome
 | []=>rfl
 | p :: r=>by
   rw [List.any_cons]
   by_cases e:keyOf p.1=some k
   ·simp only [zal e,decide_eq_true e,Bool.true_or,Option.isSome_some]
   ·rw [zam e,decide_eq_false e,Bool.false_or]; exact zbL k r
theorem zel (k j:List Key) (y:D):∀ kds:List (D×D),dLook (kds.map fun p=>if keyOf p.1=some k then (p.1,y) else p) j=(dLook kds j).map fun x=>if j=k then y else x
 | []=>rfl
 | p :: r=>by
   have ih:=zel k j y r
   rw [List.map_cons]
   by_cases h:keyOf p.1=some k
   ·rw [if_pos h]
    by_cases e:keyOf p.1=some j
    ·rw [zal (p:=(p.1,y)) e,zal e,Option.map_some,if_pos (Option.some.inj (e.symm.trans h))]
    ·rw [zam (p:=(p.1,y)) e,zam e,ih]
   ·rw [if_neg h]
    by_cases e:keyOf p.1=some j
    ·rw [zal (p:=p) e,zal e,Option.map_some,if_neg (fun z=>h (by rw [e,z]))]
    ·rw [zam (p:=p) e,zam e,ih]
theorem zeC (j:List Key):∀ a b:List (D×D),dLook (a ++ b) j=(dLook a j).or (dLook b j)
 | [],b=>by rw [List.nil_append]; rfl
 | p :: r,b=>by
   rw [List.cons_append]
   by_cases e:keyOf p.1=some j
   ·rw [zal e,zal e]; rfl
   ·rw [zam e,zam e]; exact zeC j r b
theorem zhp (kds:List (D×D)) (k j:List Key) (d:D):dLook (dPutD kds k d) j=if j=k then some d else dLook kds j:=by
 unfold dPutD
 by_cases a:(kds.any fun p=>decide (keyOf p.1=some k))=true
 ·rw [if_pos a,zel]
  rw [zbL] at a
  by_cases e:j=k
  ·obtain ⟨x,hx⟩:=Option.isSome_iff_exists.mp a
   rw [if_pos e,e,hx,Option.map_some,if_pos rfl]
  ·rw [if_neg e]
   cases dLook kds j with
   | none=>rfl
   | some x=>rw [Option.map_some,if_neg e]
 ·rw [if_neg a,zeC]
  rw [zbL] at a
  have hk:keyOf (.tuple (k.map keyD))=some k:=zbc k
  by_cases e:j=k
  ·subst e
   have:dLook kds j=none:=by
    cases q:dLook kds j with
    | none=>rfl
    | some x=>rw [q] at a; exact (a rfl).elim
   rw [if_pos rfl,this,zal hk]; rfl
  ·rw [if_neg e,zam (by rw [hk]; exact fun z=>e (Option.some.inj z).symm)]
   exact Option.or_none
theorem zbO (kds:List (D×D)) (k:List Key) (d:D):(dPutD kds k d).length<=kds.length + 1:=by
 unfold dPutD
 split
 ·rw [List.length_map]; omega
 ·rw [List.length_append,List.length_cons,List.length_nil]; omega
inductive DK (K:PySem.W.Frag) (H:Hp):List (List Key×V)->List (D×D)->Prop
 | nil:DK K H [] []
 | cons {k:List Key} {v:V} {d:D} {r:List (List Key×V)} {s:List (D×D)}:HD K H v d->DK K H r s->DK K H ((k,v) :: r) ((.tuple (k.map keyD),d) :: s)
section
variable {K:PySem.W.Frag} {H H':Hp} {A:List Addr}
theorem DK.of:∀ {kvs:List (List Key×V)} {kds:List (D×D)},kds.map (·.1)=kvs.map (fun p=>PyData.tuple (p.1.map keyD))->HDs K H (kvs.map (·.2)) (kds.map (·.2))->DK K H kvs kds
 | [],[],_,_=>.nil
 | [],_ :: _,e,_=>by simp at e
 | _ :: _,[],e,_=>by simp at e
 | (k,v) :: r,(x,d) :: s,e,h=>by
   simp only [List.map_cons,List.cons.injEq] at e
   obtain ⟨e1,e2⟩:=e
   subst e1
   cases h with
   | cons h1 h2=>exact .cons h1 (DK.of e2 h2)
theorem DK.keys:∀ {kvs:List (List Key×V)} {kds:List (D×D)},DK K H kvs kds->kds.map (·.1)=kvs.map (fun p=>PyData.tuple (p.1.map keyD))
 | _,_,.nil=>rfl
 | _,_,.cons _ t=>by rw [List.map_cons,List.map_cons,DK.keys t]
theorem DK.vals:∀ {kvs:List (List Key×V)} {kds:List (D×D)},DK K H kvs kds->HDs K H (kvs.map (·.2)) (kds.map (·.2))
 | _,_,.nil=>.nil
 | _,_,.cons h t=>.cons h (DK.vals t)
theorem DK.own {kvs:List (List Key×V)} {kds:List (D×D)} (h:DK K H kvs kds):OwO K H (.dT kvs) (.dict kds):=.dct h.keys h.vals
theorem DK.same {kvs:List (List Key×V)} {kds:List (D×D)} (s:Same H H') (h:DK K H kvs kds):DK K H' kvs kds:=DK.of h.keys (h.vals.same s)
theorem DK.len:∀ {kvs:List (List Key×V)} {kds:List (D×D)},DK K H kvs kds->kvs.length=kds.length
 | _,_,.nil=>rfl
 | _,_,.cons _ t=>by rw [List.length_cons,List.length_cons,DK.len t]
theorem DK.look (k:List Key):∀ {kvs:List (List Key×V)} {kds:List (D×D)},DK K H kvs kds->(∀ d,dLook kds k=some d->∃ v,valV kvs k=some v /\ HD K H v d) /\ (dLook kds k=none->valV kvs k=none)
 | _,_,.nil=>⟨fun d e=>(by cases e),fun _=>rfl⟩
 | _,_,.cons (k:=j) (v:=v) (d:=d) (r:=r) (s:=s) h t=>by
   have hj:keyOf (.tuple (j.map keyD))=some j:=zbc j
   by_cases e:j=k
   ·subst e
    rw [zal (p:=(PyData.tuple (j.map keyD),d)) hj,zcp (p:=(j,v)) rfl]
    exact ⟨fun d' q=>by cases q; exact ⟨v,rfl,h⟩,fun q=>by cases q⟩
   ·rw [zam (p:=(PyData.tuple (j.map keyD),d)) (by rw [hj]; exact fun z=>e (Option.some.inj z)),zcq (p:=(j,v)) e]
    exact DK.look k t
theorem DK.rep (k:List Key) {v:V} {d:D} (hv:HD K H v d):∀ {kvs:List (List Key×V)} {kds:List (D×D)},DK K H kvs kds->DK K H (kvs.map fun kv=>if kv.1=k then (kv.1,v) else kv) (kds.map fun p=>if keyOf p.1=some k then (p.1,d) else p)
 | _,_,.nil=>.nil
 | _,_,.cons (k:=j) h t=>by
   have hj:keyOf (.tuple (j.map keyD))=some j:=zbc j
   rw [List.map_cons,List.map_cons]
   by_cases e:j=k
   ·subst e
    rw [if_pos rfl,if_pos hj]; exact .cons hv (DK.rep j hv t)
   ·rw [if_neg e,if_neg (by rw [hj]; exact fun z=>e (Option.some.inj z))]; exact .cons h (DK.rep k hv t)
theorem DK.app:∀ {a:List (List Key×V)} {b:List (D×D)} {a':List (List Key×V)} {b':List (D×D)},DK K H a b->DK K H a' b'->DK K H (a ++ a') (b ++ b')
 | _,_,_,_,.nil,q=>q
 | _,_,_,_,.cons h t,q=>.cons h (DK.app t q)
theorem DK.put {kvs:List (List Key×V)} {kds:List (D×D)} (h:DK K H kvs kds) (k:List Key) {v:V} {d:D} (hv:HD K H v d):DK K H (putK kvs k v) (dPutD kds k d):=by
 have e:(kvs.any fun kv=>decide (kv.1=k))=kds.any fun p=>decide (keyOf p.1=some k):=by
  rw [zdo,zbL]
  cases q:dLook kds k with
  | none=>rw [(h.look k).2 q]; rfl
  | some x=>obtain ⟨w,hw,_⟩:=(h.look k).1 x q; rw [hw]; rfl
 unfold putK dPutD
 rw [e]
 split
 ·exact h.rep k hv
 ·exact h.app (.cons hv .nil)
theorem ShD.dk {x:V} {kds:List (D×D)} (h:ShD K A H x (.dict kds)) (hf:fnD kds=false):∃ a kvs,x=.ref a /\ H a=some (.dT kvs) /\ DK K (wo H A) kvs kds:=
 let ⟨a,kvs,e,h1,h2,h3⟩:=h.dict hf; ⟨a,kvs,e,h1,DK.of h2 h3⟩
theorem ShD.key {y:V} {d:D} {k:List Key} (h:ShD K A H y d) (e:keyOf d=some k):∃ b,y=.ref b /\ TupT H b (k.map kV):=by
 cases d with
 | tuple ds=>
   obtain ⟨b,ys,rfl,hb,hd⟩:=h.tupH
   exact ⟨b,rfl,by rw [<- zd1 hd e]; exact hb⟩
 | _=>cases e
end
noncomputable def gDget (gd gk:DS->Option D):DS->Option D:=fun δ=>(gd δ).bind fun x=>(gk δ).bind fun y=>match x with
 | .dict kds=>if fnD kds=true then none else (keyOf y).bind fun k=>dLook kds k
 | _=>none
noncomputable def gDgetD (gd gk ge:DS->Option D):DS->Option D:=fun δ=>(gd δ).bind fun x=>(gk δ).bind fun y=>(ge δ).bind fun z=>match x with
 | .dict kds=>if fnD kds=true then none else (keyOf y).bind fun k=>some ((dLook kds k).getD z)
 | _=>none
noncomputable def gSetK (i:Nat) (gk ge:DS->Option D):DS->Option Res:=fun δ=>(ge δ).bind fun d=>(gVar i δ).bind fun x=>(gk δ).bind fun y=>match x with
 | .dict kds=>(keyOf y).bind fun k=>if kds.length < 100000 then some (.nx (δ.set i (some (.dict (dPutD kds k d))))) else none
 | _=>none
noncomputable def gSetD (i:Nat) (g:DS->Option (List (D×D))):DS->Option Res:=fun δ=>(g δ).bind fun d=>some (.nx (δ.set i (some (.dict d))))
noncomputable def gDisp1 (gk ge:DS->Option D):DS->Option (List (D×D)):=fun δ=>(gk δ).bind fun y=>(ge δ).bind fun d=>(keyOf y).bind fun k=>some [(.tuple (k.map keyD),d)]
noncomputable def tNd (K:PySem.W.Frag) (O:List Nat) (g:DS->Option (List (D×D))):TE:=fun σ H Q=>∃ U A0 δ kds,Rel K O U A0 σ δ H /\ g δ=some kds /\
 ∀ r kvs H',Same H H'->H r=none->H' r=some (.dT kvs)->DK K (wo H' (r :: (U ++ A0))) kvs kds->Q (.ref r) H'
section
variable {X:Cx} {O:List Nat} {fr:Fr} {st:Stmt} {gd gk ge:DS->Option D} {gl:DS->Option (List (D×D))} {o i e f value:Expr} {pos apos cpos:Pos}
set_option tactic.hygienic true in
theorem zfp (hu:X.A.units + 1 < cLine) (ho:PE X o (tSh X.K O gd)) (hi:PE X i (tSh X.K O gk)) (hs:NoSl i:=by intro _ _; rfl):PE X (.Subscript o i pos) (tE X.K O (gDget gd gk)):=(zkS hu ho hi hs).mono fun σ H Q hh=>hh.e fun U A0 δ d R ed q=>by
 obtain ⟨x,e1,e2⟩:=bind1 ed
 obtain ⟨y,e3,e4⟩:=bind1 e2
 refine ⟨U,A0,δ,x,R,e1,fun v H1 s1 h1=>⟨U,A0,δ,y,R.same s1,e3,fun v2 H2 s2 h2=>?_⟩⟩
 cases x with
 | dict kds=>
   have e4:(if fnD kds=true then none else (keyOf y).bind fun k=>dLook kds k)=some d:=e4
   split at e4
   ·cases e4
   rename_i hf
   have hf:=Bool.eq_false_iff.mpr hf
   obtain ⟨k,e5,e6⟩:=bind1 e4
   obtain ⟨a,kvs,rfl,ha,dk⟩:=(h1.same s2).dk hf
   obtain ⟨b,rfl,hb⟩:=h2.key e5
   obtain ⟨w,hw,hd⟩:=(dk.look k).1 d e6
   refine ⟨a,w,rfl,?_,q w H2 (s1.trans s2) hd⟩
   rw [<- hw]; exact DGet.t ha hb
 | _=>cases e4
set_option tactic.hygienic true in
theorem zdP (hu:X.A.units + 1 < cLine) (ho:PE X o (tSh X.K O gd)) (hi:PE X e (tSh X.K O gk)) (hx:PE X f (tE X.K O ge)) (m:M2 X o "get" apos e f cpos:=by exact ⟨rfl,rfl,rfl,rfl⟩):PE X (.Call (.Attribute o "get" apos) [e,f] [] cpos) (tE X.K O (gDgetD gd gk ge)):=(ziO hu ho hi hx m).mono fun σ H Q hh=>hh.e fun U A0 δ d R ed q=>by
 obtain ⟨x,e1,e2⟩:=bind1 ed
 obtain ⟨y,e3,e4⟩:=bind1 e2
 obtain ⟨z,e5,e6⟩:=bind1 e4
 refine ⟨U,A0,δ,x,R,e1,fun v H1 s1 h1=>?_⟩
 cases x with
 | dict kds=>
   have e6:(if fnD kds=true then none else (keyOf y).bind fun k=>some ((dLook kds k).getD z))=some d:=e6
   split at e6
   ·cases e6
   rename_i hf
   have hf:=Bool.eq_false_iff.mpr hf
   obtain ⟨k,e7,e8⟩:=bind1 e6
   cases e8
   obtain ⟨a,kvs,rfl,ha,dk⟩:=h1.dk hf
   refine ⟨a,rfl,.inr ⟨_,.inl ha⟩,U,A0,δ,y,R.same s1,e3,fun v2 H2 s2 h2=>⟨U,A0,δ,z,(R.same s1).same s2,e5,fun v3 H3 s3 h3=>?_⟩⟩
   obtain ⟨b,rfl,hb⟩:=(h2.same s3).key e7
   have dk3:=dk.same (zac (A:=U ++ A0) (s2.trans s3))
   refine ⟨valV kvs k,DGet.t ((s2.trans s3) _ _ ha) hb,q _ H3 (s1.trans (s2.trans s3)) ?_⟩
   cases w:dLook kds k with
   | none=>rw [(dk3.look k).2 w]; exact h3
   | some d'=>obtain ⟨w',hw',hd'⟩:=(dk3.look k).1 d' w; rw [hw']; exact hd'
 | _=>cases e6
set_option tactic.hygienic true in
theorem zht {i:Nat} (h:PS X st (sDPut (tVar i) (tSh X.K O gk) (tE X.K O ge))) (hi:i∈O:=by decide):PS X st (tS X.K O fr (gSetK i gk ge)):=h.mono fun E σ H hh=>hh.e fun H0 U A0 δ r R F ed P=>by
 obtain ⟨d,e1,e2⟩:=bind1 ed
 obtain ⟨x,e3,e4⟩:=bind1 e2
 obtain ⟨y,e5,e6⟩:=bind1 e4
 obtain ⟨l,o,hl,hU,h1,h2⟩:=R.ow i x hi (zB e3)
 cases h2 with
 | lst _=>cases e6
 | dct kk hv=>
   obtain ⟨k,e7,e8⟩:=bind1 e6
   split at e8
   ·rename_i hz
    cases e8
    refine ⟨U,A0,δ,d,R,e1,fun v H1 s1 hv1=>⟨.ref l,hl,U,A0,δ,y,R.same s1,e5,fun v2 H2 s2 h3=>?_⟩⟩
    obtain ⟨b,rfl,hb⟩:=h3.key e7
    have dk:=DK.of kk hv
    have hlen:=dk.len
    have dk2:=dk.same (zac (A:=U ++ A0) (s1.trans s2))
    refine ⟨l,_,rfl,DPut.t ((s1.trans s2) _ _ h1) hb (small' (by omega)),?_⟩
    exact P U σ _ ((R.same (s1.trans s2)).putO hi hl hU (dk2.put k (hv1.same (zac s2))).own ⟨_,zB e3⟩) ((F.grow (s1.trans s2)).put hU _)
   ·cases e8
theorem zgP {i:Nat} (h:PS X st (tAsg (tNd X.K O gl) (gName i))) (hi:i∈O:=by decide):PS X st (tS X.K O fr (gSetD i gl)):=h.mono fun E σ H hh=>hh.e fun H0 U A0 δ r R F ed P=>by
 obtain ⟨d,e1,e2⟩:=bind1 ed
 cases e2
 exact ⟨U,A0,δ,d,R,e1,fun r kvs H' s hr h1 h2=>P (r :: U) _ H' (R.setO s hr h1 h2.own hi) (F.more s hr)⟩
theorem Rel.hideO {K:PySem.W.Frag} {O:List Nat} {U A0:List Addr} {σ:St} {δ:DS} {H H':Hp} (R:Rel K O U A0 σ δ H) (s:Same H H') {r:Addr} {o:HO} (hr:H r=none) (h:H' r=some o) (ho:OwnO o):Rel K O U (r :: A0) σ δ H':=by
 have k:Same (wo H (U ++ A0)) (wo H' (U ++ (r :: A0))):=fun b o q=>by
  obtain ⟨h1,h2⟩:=zbG q
  rw [zL]
  ·exact s b o h2
  ·simp only [List.mem_append,List.mem_cons,not_or] at h1 ⊢
   exact ⟨h1.1,zv h2 hr,h1.2⟩
 exact {
  len:=R.len
  fz:=fun i d hi e=>let ⟨v,a,b⟩:=R.fz i d hi e; ⟨v,a,b.same k⟩
  ow:=fun i d hi e=>let ⟨l,o,a,c,f,g⟩:=R.ow i d hi e; ⟨l,o,a,c,s _ _ f,g.same k⟩
  inj:=R.inj
  al:=⟨fun a ha=>by
   simp only [List.mem_append,List.mem_cons] at ha
   rcases ha with z | z | z
   ·exact (R.al.same s).1 a (by simp [z])
   ·subst z; exact ⟨_,h,ho⟩
   ·exact (R.al.same s).1 a (by simp [z]),(R.al.same s).2⟩ }
noncomputable def tDisp1 (tk tv:TE):TE:=fun σ H Q=>∀ p,H p=none->tPairs [(tk,tv)] σ (upd H p (.dT [])) fun ps H2=>H2 p=some (.dT []) /\ ∃ b ks y,ps=[(.ref b,y)] /\ TupT H2 b (ks.map kV) /\ Q (.ref p) (upd H2 p (.dT [(ks,y)]))
theorem zi5 {k v:Expr} {tk tv:TE} (hu:X.A.units + 1 < cLine) (hk:PE X k tk) (hv:PE X v tv):PE X (.Dict [some k] [v] pos) (tDisp1 tk tv):=by
 intro pins s σ H Q I q
 have hn:=I.hok.fresh (Nat.le_refl s.heap.objs.size)
 have I1:=I.laid (a:=s.heap.objs.size) (o:=.dT []) (h':=s.heap.push { cls:=.type "dict",data:=.dict #[] }) (t':=s.toks) (fun _ _ q=>Heap.get?_push_of_some _ q) (Nat.le_refl _) (zjk s.heap I.big)
 have pp:PPs X pos [some k] [v] [(tk,tv)]:=ziZ hk hv zke
 refine wpAny_Dict_any rfl rfl (by simp) (by simp) (thn (pp pins _ σ _ _ I1 (q _ hn)) fun ws s2 ⟨ps,H2,I2,rel,e,b,ks,y,e2,e4,q2⟩=>?_)
 subst e2
 cases rel with
 | @cons _ w _ _ h t=>
   cases t
   obtain ⟨u1,u2⟩:=w
   obtain ⟨r1,r2⟩:=h
   cases (show u1=Value.ref b from r1)
   have hf:storeAll s.heap.objs.size [(Value.ref b,u2)]=(do dictSet s.heap.objs.size (Value.ref b) u2):=by
    unfold storeAll
    rw [List.forIn_cons]
    simp
   rw [hf]
   obtain ⟨z,hd,xs,rl,dd⟩:=zlq I2.hok e
   cases rl
   refine wpAny_dictSet_heap (show X.A.units < cLine by omega) (zex I2.hok e4) dd (fun h' dd' hs=>⟨.ref s.heap.objs.size,_,?_,rfl,q2⟩) (Nat.zero_le _)
   obtain ⟨q,es,ep,hq,h2,h3,h4,_,h5⟩:=dd'
   have rel0:KT H2 [] []:=.nil
   refine ze3 I2 (by rw [e]; exact True.intro) hs ⟨q,hq⟩ ⟨small (by simp),hd,_,(rel0.put ks e4 r2).keeps fun c ys ec=>?_,q,es,ep,hq,h2,h3,h4,h5⟩
   exact ec.dT e
theorem zf2 {k v:Expr} (hu:X.A.units + 1 < cLine) (hk:PE X k (tSh X.K O gk)) (hv:PE X v (tE X.K O ge)):PE X (.Dict [some k] [v] pos) (tNd X.K O (gDisp1 gk ge)):=(zi5 hu hk hv).mono fun σ H Q ⟨U,A0,δ,d,R,ed,q⟩ p hp=>by
 obtain ⟨y,e1,e2⟩:=bind1 ed
 obtain ⟨d',e3,e4⟩:=bind1 e2
 obtain ⟨ks,e5,e6⟩:=bind1 e4
 cases e6
 have s0:=zI hp (.dT [])
 have R0:Rel X.K O U (p :: A0) σ δ (upd H p (.dT [])):=R.hideO s0 hp zG trivial
 refine ⟨U,p :: A0,δ,y,R0,e1,fun v H1 s1 h1=>⟨U,p :: A0,δ,d',R0.same s1,e3,fun w H2 s2 h2=>?_⟩⟩
 obtain ⟨b,rfl,hb⟩:=(h1.same s2).key e5
 have hH2:H2 p=some (.dT []):=(s1.trans s2) _ _ zG
 refine ⟨hH2,b,ks,w,rfl,hb,q p _ _ (s0.trans (s1.trans s2) |>.upd hp _) hp zG ?_⟩
 have ew:wo (upd H2 p (.dT [(ks,w)])) (p :: (U ++ A0))=wo H2 (p :: (U ++ A0)):=ziq (by simp)
 rw [ew]
 exact .cons (h2.same (zcJ fun a ha=>by simp only [List.mem_append,List.mem_cons] at ha ⊢; rcases ha with z | z | z; exact .inr (.inl z); exact .inl z; exact .inr (.inr z))) .nil
end
end L2
namespace LS
open PySem PySem.Spec PyProof.Rows
section
variable {prog:Program} {w:World} {A:Around} {E:Value->Shared->Prop} {s:Shared}
theorem newK {T nw:String} {Bn:Builtin} {us:List Value} {kw:List (Str×Value)} {S:PySem.Spec} {Q:Value->Shared->Prop} (ft:TypeCalled T nw "object.__init__") (c1:checkTypeCall T ⟨us,kw⟩=pure ()) (c2:checkBuiltinCall nw ⟨.type T :: us,kw⟩=pure ())
  (en:entryFor table nw=some Bn) (g:Meets (Bn ⟨.type T :: us,kw⟩) S) (c3:∀ o,argsOk "object.__init__" ⟨o :: us,kw⟩) (gi:∀ o,Meets (Builtin.«object.__init__» ⟨o :: us,kw⟩) (fun _ R s=>s.TypeIs o T /\ R (.ok (.ret .none)) s))
  (h:S A.in1 (wants (fun o s1=>s1.TypeIs o T /\ Q o s1) E) s):wpAny (model prog w) A (call (.type T) us kw) Q E s:=by
 obtain ⟨hc,tl,hm⟩:=ft.mro
 have k1:=ft.made
 have k2:=ft.sub
 have k3:=ft.notType
 have k4:=ft.canCreate
 refine wpAny_call (codeAny_of_tree (show wpAny _ _ (callAny (.type T) _) _ _ _ from wpAny_pure ⟨Code.quiet_builtin _ (by decide +kernel),codeAny_builtin F.entry_type_call ?_⟩))
 rw [Around.under_plain (weight_type_call_type T us kw) (units_type_call_type T us kw)]
 repeat any_goals first | assumption | wp_step
 refine codeAny_mono (codeAny_call_builtin ft.plain en (wpAny_of_eq c2 (g prog w A.in1 _ s h))) fun r s1 hr=>?_
 cases r with
 | error e=>exact hr
 | ok fl=>
   cases fl with
   | ret o=>
     obtain ⟨hT,hq⟩:=hr
     have k5:=ft.init.lookup
     have k6:=ft.init.bind o
     repeat any_goals first | assumption | wp_step
     refine codeAny_mono (codeAny_call_builtin ft.init.plain F.entry_object_init (ft.init.check _ _ _ _ _ _ _ _ hT (c3 o) (gi o prog w A.in1 (wants (fun r s2=>r=.none /\ Q o s2) E) s1 ⟨hT,rfl,hq⟩))) fun r2 s2 hr2=>?_
     cases r2 with
     | error e=>exact hr2
     | ok f2=>
       cases f2 with
       | ret r=>
         obtain ⟨rfl,q2⟩:=hr2
         repeat any_goals first | assumption | wp_step
       | _=>exact hr2.elim
   | _=>exact hr.elim
end
theorem initK {T nw:String} {o:Value} {us:List Value} {kw:List (Str×Value)} (hl:typeLookup (.type T) "__init__"=pure (some (.builtin "object.__init__"))) (hm:Bind.madeBy (.type T)=pure (some nw)) (hne:(some nw != some "object.__new__")=true) (u:Value):
  Meets (Builtin.«object.__init__» ⟨o :: u :: us,kw⟩) (fun _ R s=>s.TypeIs o T /\ R (.ok (.ret .none)) s):=by
 refine Meets.of_wp fun prog w A R s hs=>?_
 obtain ⟨hT,hq⟩:=hs
 repeat any_goals first | assumption | wp_step
 exact ⟨_,rfl,hq⟩
theorem tcS (a b:Value):checkTypeCall "enumerate" ⟨[a],[("start",b)]⟩=pure ():=by kernel_rfl
theorem bcS (a b:Value):checkBuiltinCall "enumerate.__new__" ⟨[.type "enumerate",a],[("start",b)]⟩=pure ():=by kernel_rfl
theorem aoS (o a b:Value):argsOk "object.__init__" ⟨[o,a],[("start",b)]⟩:=by kernel_rfl
set_option maxHeartbeats 1000000 in
set_option tactic.hygienic true in
theorem newS (l:Addr) (items:Array Value) (n:Nat) (dct:Option Addr) (sl:Array (Option Value)) (t:Tok):
  Meets (Builtin.«enumerate.__new__» ⟨[.type "enumerate",.ref l],[("start",.int 1 t)]⟩) (fun _ R s=>s.heap.get? l=some { cls:=.type "tuple",dict:=dct,data:=.seq items n,slots:=sl } /\
   R (.ok (.ret (.ref (s.heap.push { cls:=.type "tuple_iterator",data:=.fields #[.ref l,.int 0 0] }).objs.size)))
     { s with heap:=(s.heap.push { cls:=.type "tuple_iterator",data:=.fields #[.ref l,.int 0 0] }).push { cls:=.type "enumerate",data:=.fields #[.none,.bool false,.ref s.heap.objs.size,rawInt 1,.none,.none] } }):=
 .of_wp fun prog w A R s h=>by
  obtain ⟨hp,g,d,tk,os⟩:=s; obtain ⟨hl,h⟩:=h
  have hsub:=sub_enumerate
  have hL:Heap.IsTuple (Shared.heap ⟨hp,g,d,tk,os⟩) l items:=⟨_,hl,rfl,n,rfl⟩
  wp_walk using AutoSeq1.wpAny_loadPart' hl
  refine wpAny_stack_any fun st=>wpAny_pure ?_
  split
  ·rename_i c _ _ _ _ _
   cases (c == Value.type "enumerate")
   ·wp_walk using AutoSeq1.wpAny_loadPart' hl,wpAny_pyIter_tuple hL
    exact ⟨_,rfl,h⟩
   ·wp_walk using AutoSeq1.wpAny_loadPart' hl,wpAny_pyIter_tuple hL
    exact ⟨_,rfl,h⟩
  ·wp_walk using AutoSeq1.wpAny_loadPart' hl,wpAny_pyIter_tuple hL
   exact ⟨_,rfl,h⟩
end LS
namespace LS
open PySem PySem.Spec PyProof.Rows
section
variable {prog:Program} {w:World} {A:Around} {E:Value->Shared->Prop} {s:Shared}
theorem zgc {l:Addr} {items:Array Value} {t:Tok} {Q:Value->Shared->Prop} (hL:s.heap.IsTuple l items)
  (h:∀ h',IsEnum h' (s.heap.objs.size + 1) s.heap.objs.size 1 .none->h'.IsTupleIter s.heap.objs.size l 0->h'.objs.size=s.heap.objs.size + 2->(∀ b o,s.heap.get? b=some o->h'.get? b=some o)->Q (.ref (s.heap.objs.size + 1)) { s with heap:=h' }):
  wpAny (model prog w) A (call (.type "enumerate") [.ref l] [("start",.int 1 t)]) Q E s:=by
 obtain ⟨⟨c,dct,dt,sl⟩,hl,hc,n,hd⟩:=hL
 simp only at hc hd
 subst hc hd
 refine newK PySem.F.called_enumerate (tcS _ _) (bcS _ _) PySem.F.entry_enumerate_new (newS l items n dct sl t) (fun o=>aoS o _ _) (fun o=>initK PySem.F.called_enumerate.init.lookup PySem.F.called_enumerate.made (by decide) _) ⟨hl,?_⟩
 have hz:(s.heap.push { cls:=.type "tuple_iterator",data:=.fields #[.ref l,.int 0 0] }).objs.size=s.heap.objs.size + 1:=Heap.size_push ..
 show _ /\ _
 rw [hz]
 have he:IsEnum ((s.heap.push { cls:=.type "tuple_iterator",data:=.fields #[.ref l,.int 0 0] }).push { cls:=.type "enumerate",data:=.fields #[.none,.bool false,.ref s.heap.objs.size,rawInt 1,.none,.none] }) (s.heap.objs.size + 1) s.heap.objs.size 1 .none:=by
  have q:=Heap.get?_push_size (s.heap.push { cls:=.type "tuple_iterator",data:=.fields #[.ref l,.int 0 0] }) (o:={ cls:=.type "enumerate",data:=.fields #[.none,.bool false,.ref s.heap.objs.size,rawInt 1,.none,.none] }) rfl
  rw [hz] at q; exact q
 exact ⟨⟨_,he,rfl⟩,h _ he ⟨_,Heap.get?_push_of_some _ (Heap.get?_push_size _ rfl),rfl,rfl⟩ (by rw [Heap.size_push,hz]) fun b o x=>Heap.get?_push_of_some _ (Heap.get?_push_of_some _ x)⟩
theorem zfK {it:Addr} {fp:List Addr} {n:Nat} {P:Nat->Value->Prop} {St:Nat->Heap->Prop} (d:Draws prog w A it fp n P St):Draws prog w A it fp (n + 1) (fun i v=>∃ j,i=j + 1 /\ P j v) (fun i h=>∃ j,i=j + 1 /\ St j h) where
 live:=fun _ h ⟨j,_,q⟩=>d.live j h q
 frame:=fun _ h h' ⟨j,e,q⟩ k=>⟨j,e,d.frame j h h' q k⟩
 item:=fun i s Q E hi ⟨j,e,q⟩ hQ=>d.item j s Q E (by omega) q fun x h' tk p st sb=>hQ x h' tk ⟨j,e,p⟩ ⟨j + 1,by omega,st⟩ sb
 done:=fun s Q E ⟨j,e,q⟩ hE=>d.done s Q E ((show j=n by omega) ▸ q) hE
theorem zc1 {M:Model} {env:Env} {pos:Pos} {T:String} {e:Expr} {es:List Expr} {kws:List Keyword} {Q:Value->Shared->Prop}
  (h:wpAny M A (spliced (backTo pos (starEach (e :: es) env))) (fun vs s1=>wpAny M A (evalAll ((backToKw pos (keywordEach kws env)).map (·.2))) (fun ks s2=>wpAny M A (call (.type T) vs (((backToKw pos (keywordEach kws env)).filterMap (·.1)).zip ks)) Q E s2) E s1) E s)
  (he:backTo pos (starEach (e :: es) env)=(false,eval e env) :: backTo pos (starEach es env)) (hp:(backTo pos (starEach (e :: es) env)).any (·.1)=false) (ha:(backToKw pos (keywordEach kws env)).all (·.1.isSome)=true) (hk:(backToKw pos (keywordEach kws env)).any (·.1.isNone)=false):
  wpAny M A (callWith pos (.type T) [] (backTo pos (starEach (e :: es) env)) (backToKw pos (keywordEach kws env))) Q E s:=by
 have h1:wpAny M A (evalArgs (.type T) true (backTo pos (starEach (e :: es) env)) (backToKw pos (keywordEach kws env))) (fun a s1=>wpAny M A (call (.type T) a.pos a.kw) Q E s1) E s:=by
  rw [he] at h ⊢
  exact evalArgs_kwB ha h
 unfold callWith
 refine wpAny_bind (wpAny_holding (wpAny_mono h1 (fun a s1 q=>wpAny_bind (wpAny_standAt ?_)) fun _ _ x=>x))
 simp only [hp,hk,Bool.or_false]
 exact wpAny_bind (wpAny_pure (wpAny_bind (wpAny_mono q (fun r s2 hr=>wpAny_bind (wpAny_holding (wpAny_point (wpAny_pure hr)))) fun _ _ x=>x)))
end
end LS
namespace L2
open PySem PySem.Spec PyProof.Rows LS
noncomputable def IteS (K:PySem.W.Frag) (a:Addr):It:=
 ⟨fun i H=>∃ xs x,SqT K H a xs /\ xs[i]?=some x,fun i H x H'=>∃ p v,H p=none /\ x=.ref p /\ H'=upd H p (.tup [.int ((i:Int) + 1),v]) /\ ∀ xs,SqT K H a xs->xs[i]?=some v,fun i H=>∃ xs,SqT K H a xs /\ xs.length=i⟩
theorem zf3 {P:Program} {w:World} {K:PySem.W.Frag} {es:List Expr} {kk} {tpos:Pos} (a e it:Addr) (hne:e≠it):Turn P w K (.Tuple es kk tpos) (IteS K a) [e,it] e (fun i h=>(∃ old,IsEnum h e it ((i:Int) + 1) old) /\ h.IsTupleIter it a i) where
 mem:=by simp
 obj:=fun i h st b hb=>by
  obtain ⟨⟨old,he⟩,o,ho,c,d⟩:=st
  rcases List.mem_cons.mp hb with z | z
  ·subst z; exact ⟨_,he,fun v z=>by cases z⟩
  ·have z:b=it:=by simpa using z
   subst z; exact ⟨o,ho,fun v z=>by rw [d] at z; cases z⟩
 keep:=fun i h h' st k=>by
  obtain ⟨⟨old,he⟩,st2⟩:=st
  exact ⟨⟨old,k e (by simp) _ he⟩,st2.at fun o eo=>k it (by simp) o eo⟩
 item:=by
  intro X hP hw hK hc i pins s σ H E I hf st hg
  subst hP hw hK
  obtain ⟨xs,x,hq,hx⟩:=hg
  obtain ⟨its,rv,p,hz⟩:=I.tuple hq
  obtain ⟨u,hu,ru⟩:=rv.get hx
  obtain ⟨⟨old,he⟩,st2⟩:=st
  have hp:s.heap.IsTuple a its.toArray:=p
  have hea:e≠a:=fun z=>by
   obtain ⟨o,ho,hcl,_⟩:=hp
   rw [<- z] at ho
   have:=ho.symm.trans he
   cases this
   exact absurd (Value.type.inj hcl) (by decide)
  have hia:a≠it:=fun z=>by
   obtain ⟨o,ho,hcl,_⟩:=hp
   obtain ⟨o2,ho2,hcl2,_⟩:=st2
   rw [z] at ho
   have:=ho.symm.trans ho2
   cases this
   rw [hcl] at hcl2
   exact absurd (Value.type.inj hcl2) (by decide)
  have hil:i < its.toArray.size:=by
   have:=(List.getElem?_eq_some_iff.mp hu).1
   simpa using this
  refine wpAny_pyNext_enum_itemD (i:=i + 1) (LS.zfK (zbo (A:=X.A.in1) (I.ok.hd hc) it a hia its.toArray)) (by push_cast; exact he) ⟨i,rfl,st2,hp⟩ (Nat.succ_lt_succ hil) hne (by simp [hne,hea]) fun y h1 tk hy heo hst1 ht1 hz1 hk1=>?_
  obtain ⟨j,ej,hy⟩:=hy
  obtain ⟨j',ej',hst1⟩:=hst1
  cases ej
  cases ej'
  push_cast at heo ht1
  have hyu:y=u:=by
   have h3:its.toArray[i]?=some u:=by simpa using hu
   have h4:its.toArray[i]?=some y:=hy
   rw [h3] at h4; cases h4; rfl
  subst hyu
  refine ⟨_,rfl,wpAny_letOwnedTupleGo_enum heo fun h2 he2 hs2=>?_⟩
  replace hs2:Heap.SameBut e h1 h2:=hs2
  have heH:e < s.heap.objs.size:=Heap.lt_size he
  have I1:Inv X pins σ H { s with heap:=h2,toks:=tk + 1 }:=I.turnedL (t':=tk + 1) (ch:=[e,it]) (fun b o hb eo=>by
   simp only [List.mem_cons,List.not_mem_nil,or_false,not_or] at hb
   exact (hs2.2 b hb.1).trans (hk1 b o hb.1 hb.2 eo)) hf
  have ht2:IsTup h2 s.heap.objs.size [Value.int ((i:Int) + 1) tk,y].toArray:=⟨_,(hs2.2 _ (Nat.ne_of_gt heH)).trans ht1,rfl,_,rfl⟩
  have hfr:H s.heap.objs.size=none:=I.hok.fresh (Nat.le_refl _)
  have fo:=I.fpOk (H':=H) (Nat.le_refl _) hfr
  have I2:Inv X pins σ (upd H s.heap.objs.size (.tup [.int ((i:Int) + 1),x])) { s with heap:=h2,toks:=tk + 1 }:=I1.trackT hfr (Nat.le_trans I.sz (Nat.le_refl _)) fo.2.1 fo.2.2.2.2.1 fo.2.2.2.2.2 ht2 (.cons ⟨_,rfl⟩ (.cons ru .nil)) (by show 2<=sizeLine; decide)
  refine ⟨.ref s.heap.objs.size,_,I2,rfl,⟨_,x,hfr,rfl,rfl,fun ys hy=>by rw [I.tuple_inj hy hq]; exact hx⟩,⟨⟨y,by push_cast; exact he2⟩,hst1.1.extBut hs2.extBut (Ne.symm hne)⟩,fun b hb=>?_⟩
  have hlt:b < s.heap.objs.size:=by
   rcases List.mem_cons.mp hb with z | z
   ·subst z; exact heH
   ·have z:b=it:=by simpa using z
    subst z
    obtain ⟨o,ho,_⟩:=st2
    exact Heap.lt_size ho
  rw [zn (Nat.ne_of_lt hlt)]
  exact (hf b hb).1
 done:=by
  intro X hP hw hK hc i pins s σ H E I hf st hg
  subst hP hw hK
  obtain ⟨xs,hq,hx⟩:=hg
  obtain ⟨its,rv,p,hz⟩:=I.tuple hq
  obtain ⟨⟨old,he⟩,st2⟩:=st
  have hp:s.heap.IsTuple a its.toArray:=p
  have hia:a≠it:=fun z=>by
   obtain ⟨o,ho,hcl,_⟩:=hp
   obtain ⟨o2,ho2,hcl2,_⟩:=st2
   rw [z] at ho
   have:=ho.symm.trans ho2
   cases this
   rw [hcl] at hcl2
   exact absurd (Value.type.inj hcl2) (by decide)
  have hl:=rv.length
  have hsz:its.toArray.size=i:=by rw [List.size_toArray,<- hl]; exact hx
  refine wpAny_pyNext_enum_endD (LS.zfK (zbo (A:=X.A.in1) (I.ok.hd hc) it a hia its.toArray)) he ⟨_,rfl,by rw [hsz]; exact st2,hp⟩ fun h1 eb=>⟨rfl,?_⟩
  exact I.turnedL (t':=s.toks) (ch:=[e,it]) (fun b o hb eo=>eb b o (fun z=>hb (by simp [z])) eo) hf
 self:=fun _ _ _ _ _ st h=>by
  obtain ⟨⟨old,he⟩,_⟩:=st
  exact wpAny_pyIter_enum he h
section
variable {X:Cx} {O:List Nat} {a:Expr} {ge:DS->Option D} {p pos:Pos} {es:List Expr} {kk} {tpos:Pos}
noncomputable def iEnumS (K:PySem.W.Frag) (ta:TA):TI:=fun σ H R=>ta σ H fun vs H1=>∃ a xs,vs=[.ref a] /\ SqT K H1 a xs /\ R (IteS K a) H1
theorem zi3 {ta:TA} {jj} {cp kp:Pos} (hg:Gl X "enumerate") (hm:X.mg "enumerate"=none) (ha:PA X [a] ta) (hs:starEach [a] X.env=[(false,eval a X.env)]:=by rfl):PI X (.Tuple es kk tpos) (.Call (.Name "enumerate" p) [a] [⟨some "start",.Constant (.int 1) jj cp,kp⟩] pos) (iEnumS X.K ta):=by
 intro pins s σ H R I h
 refine wpAny_Call_Name_kw (zbM I hg hm zbt (LS.zc1 (thn (ha pos pins s σ H _ I h) fun us s1 ⟨vs,H1,I1,r1,q1⟩=>?_) (by rw [hs]; rfl) (by rw [hs]; rfl) rfl rfl))
 obtain ⟨b,xs,e,hq,q⟩:=q1
 subst e
 obtain ⟨u,rfl,ru⟩:=vals1 r1
 cases ru
 refine PyProof.Rows.evalAll_cons (wpAny_bind (thn (ze pins s1 σ H1 (fun v H2=>v=V.int 1 /\ H2=H1) I1 ⟨rfl,rfl⟩) fun kv s2 ⟨v,H2,I2,rv2,e1,e2⟩=>wpAny_bind (wpAny_standAt (wpAny_pure (PyProof.Rows.evalAll_nil ?_)))))
 subst e1 e2
 obtain ⟨t,rfl⟩:=rv2
 obtain ⟨its,rv,pl,hz⟩:=I2.tuple hq
 refine LS.zgc (show s2.heap.IsTuple b its.toArray from pl) fun h' he hit hsz hk=>?_
 refine wpAny_pyIter_enum he ?_
 refine ⟨s2.heap.objs.size + 1,[s2.heap.objs.size + 1,s2.heap.objs.size],_,_,H2,rfl,I2.kept (t':=s2.toks) hk,zf3 b _ s2.heap.objs.size (Nat.succ_ne_self _),⟨⟨_,he⟩,hit⟩,fun b hb=>?_,q⟩
 have hle:s2.heap.objs.size<=b:=by
  simp only [List.mem_cons,List.not_mem_nil,or_false] at hb
  rcases hb with z | z
  ·rw [z]; exact Nat.le_succ _
  ·rw [z]; exact Nat.le_refl _
 exact I2.fpOk hle (I2.hok.fresh hle)
noncomputable def enumS (l:List D):List D:=(l.zipIdx 1).map fun p=>.tuple [.int (p.2:Nat),p.1]
theorem zhW (l:List D):(enumS l).length=l.length:=by unfold enumS; simp
theorem zh8 {l:List D} {i:Nat} {d:D} (h:(enumS l)[i]?=some d):∃ x,l[i]?=some x /\ d=.tuple [.int ((i:Int) + 1),x]:=by
 unfold enumS at h
 rw [List.getElem?_map,List.getElem?_zipIdx] at h
 cases e:l[i]? with
 | none=>rw [e] at h; cases h
 | some x=>
   rw [e] at h
   simp only [Option.map_some,Option.some.injEq] at h
   refine ⟨x,rfl,?_⟩
   rw [<- h]
   push_cast
   rw [Int.add_comm]
noncomputable def gEnumS (g:DS->Option D):DS->Option (List D):=fun δ=>(g δ).bind fun | .tuple l=>some (enumS l) | _=>none
theorem zjg {jj} {cp kp:Pos} (hm:X.mg "enumerate"=none) (ha:PE X a (tE X.K O ge)) (hg:Gl X "enumerate":=by rfl) (hs:starEach [a] X.env=[(false,eval a X.env)]:=by rfl) (hs0:starEach ([]:List Expr) X.env=[]:=by rfl):PI X (.Tuple es kk tpos) (.Call (.Name "enumerate" p) [a] [⟨some "start",.Constant (.int 1) jj cp,kp⟩] pos) (tI X.K O (gEnumS ge)):=
 (zi3 hg hm (zC ha zY (by rw [hs,hs0])) hs).mono fun σ H Q hh=>hh.e fun U A0 δ ds R ed q=>by
  obtain ⟨x,e1,e2⟩:=bind1 ed
  cases x with
  | tuple l=>
    cases e2
    refine ⟨U,A0,δ,_,R,e1,fun v H' s h=>?_⟩
    cases h with
    | tup hq h=>
      refine ⟨_,_,rfl,.inl (zZ.tupT hq),q _ H' s ?_⟩
      intro A' i H2 s2 al
      have h2:=h.same s2
      have hL:SqT X.K H2 _ _:=.inl (zZ.tupT (s2.tupT hq))
      refine ⟨fun d hd=>?_,fun hi=>⟨_,hL,by rw [hi,zhW,h2.len]⟩⟩
      obtain ⟨y,hy,rfl⟩:=zh8 hd
      obtain ⟨v,hv,hvd⟩:=h2.get hy
      refine ⟨⟨_,v,hL,hv⟩,fun z H3 hz=>?_⟩
      obtain ⟨p,v',hp,rfl,rfl,hv'⟩:=hz
      have:=hv' _ hL
      rw [hv] at this
      cases this
      exact ⟨zI hp _,HD.newT al hp (.cons (.int _) (.cons hvd .nil))⟩
  | _=>cases e2
end
end L2
namespace L2
open PySem PySem.Spec PyProof.Rows LS
section
variable {X:Cx} {O:List Nat} {a b:Expr} {ga gb:DS->Option D} {p pos:Pos} {es:List Expr} {kk} {tpos:Pos}
end
end L2
namespace L2
open PySem PySem.Spec PyProof.Rows
section
variable {X:Cx} {O:List Nat} {e:Expr}
end
noncomputable def offC (K0:PySem.W.Frag):PySem.W.Frag:=K0.filter fun q=>(cstTab.lookup q.1).isNone
theorem zbm (b:Addr):∀ K0:PySem.W.Frag,(offC K0).lookup b=if (cstTab.lookup b).isNone=true then K0.lookup b else none
 | []=>by simp [offC]
 | (c,o) :: r=>by
   have ih:=zbm b r
   unfold offC at ih ⊢
   rw [List.filter_cons]
   by_cases e:b=c
   ·subst e
    by_cases q:(cstTab.lookup b).isNone=true
    ·rw [if_pos q,if_pos q,List.lookup_cons,List.lookup_cons]; simp
    ·rw [if_neg q,if_neg q]; rw [if_neg q] at ih; exact ih
   ·have e':(b == c)=false:=by simpa using e
    rw [List.lookup_cons,e']
    by_cases q:(cstTab.lookup c).isNone=true
    ·rw [if_pos q,List.lookup_cons,e']; exact ih
    ·rw [if_neg q]; exact ih
structure CstOk (K0:PySem.W.Frag):Prop where
 one:∀ p xs,(p,xs)∈cstTab->cstTab.lookup p=some xs
 tup:∀ p xs,cstTab.lookup p=some xs->∃ (od:Option Addr) (its:Array Value) (n:Nat) (sl:Array (Option Value)),K0.lookup p=some ⟨.type "tuple",od,.seq its n,sl⟩ /\ xs.length<=sizeLine /\ Vals xs its.toList
theorem CstOk.look {K0:PySem.W.Frag} (C:CstOk K0) {b:Addr} {o:Obj} (h:K0.lookup b=some o) (n:∀ its n,o.data≠.seq its n):(offC K0).lookup b=some o:=by
 rw [zbm]
 cases q:cstTab.lookup b with
 | none=>exact h
 | some xs=>
   obtain ⟨od,its,k,sl,e,_⟩:=C.tup b xs q
   rw [h] at e; cases e
   exact absurd rfl (n its k)
theorem CstOk.func {K0:PySem.W.Frag} (C:CstOk K0) {x qual:Str} {st:Stmt} {f:Addr} {fd:FuncData} (F:Fun K0 x qual st f fd):Fun (offC K0) x qual st f fd:=by
 obtain ⟨⟨oc,od,kV,doc,pm,an,cdv,ct,osl,e1,e2,e3⟩,kp⟩:=F
 have e2':=C.look e2 (fun its n z=>by cases z)
 refine ⟨⟨oc,od,kV,doc,pm,an,cdv,ct,osl,e1,e2',?_⟩,?_⟩
 ·unfold PySem.W.codeIn at e3 ⊢
  cases cdv with
  | ref c=>
    simp only at e3 ⊢
    cases q:K0.lookup c with
    | none=>rw [q] at e3; exact absurd e3 (by simp)
    | some ob=>
      obtain ⟨c1,c2,dt,c4⟩:=ob
      rw [q] at e3
      cases dt with
      | fields vs=>rw [C.look q (fun its n z=>by cases z)]; exact e3
      | _=>exact absurd e3 (by simp)
  | _=>exact e3
 ·unfold PySem.W.keepIn
  simp only [e2']
noncomputable def Hc (K0:PySem.W.Frag):Hp:=fun b=>match cstTab.lookup b with
 | some xs=>(K0.lookup b).map fun ob=>HO.frz ob (.tup xs)
 | none=>none
theorem zhM {P:Program} {w:World} {K0:PySem.W.Frag} {mg mb:Str->Option Value} {CX:CXT} {k:Nat} {fa a:Addr} {fd:FuncData} {x:Str} {sp:Sp} {s₁:Shared} {vs:List Value} {ns:List Int} (C:CstOk K0)
  (KX:K0.In s₁.heap) (hns:s₁.heap.Ns mainGlobals mg) (hb:s₁.heap.Ns builtinsNs mb) (hbb:∀ x:Str,x≠"__name__"->mb x=bootBuiltins x) (hlim:s₁.heap.NoLimit) (hg:s₁.gens=#[])
  (ha:s₁.heap.get? a=some { cls:=.type "list",data:=.seq vs.toArray }) (hi:IntsAre vs ns) (hl:ns.length<=sizeLine) (hr:Room k callerA)
  (F:∀ base:Heap,(offC K0).In base->base.Ns mainGlobals mg->FnOk P w (offC K0) mg base CX k fa fd [x] sp) (hbind:∀ (s:Shared) (u:Value),BindsTo s fd ⟨[u],[]⟩ [(x,u)])
  (hsp:∀ H:Hp,LsD (offC K0) H a (ns.map V.int)->(∀ p xs,(p,xs)∈cstTab->TupT H p xs)->sp [.ref a] H (fun v _=>v=.bl true) fun _ _ _=>False)
  (hCX:∀ H e s',CX [] H s₁ (fun _ _ _=>False) e s'->False):
  codeAny (model P w) callerA (.call (.ref fa) ⟨[.ref a],[]⟩) (fun r s'=>r=.ok (.ret (.bool true)) /\ OldK s₁.heap s'.heap /\ s'.os=s₁.os /\ AllBare s'.gens) s₁:=by
 have rv:=zd5 hi
 have lenV:=hi.length
 have core:∀ H:Hp,(∀ b,H b=none \/ ∃ o u,H b=some (.frz o u))->LsD (offC K0) H a (ns.map V.int)->HOk P w H s₁.heap->(∀ p xs,(p,xs)∈cstTab->TupT H p xs)->(∀ b o es ep,H b≠none->s₁.heap.get? b=some o->o.data≠.dict es ep)->(∀ b,H b≠none->(offC K0).lookup b=none)->
   codeAny (model P w) callerA (.call (.ref fa) ⟨[.ref a],[]⟩) (fun r s'=>r=.ok (.ret (.bool true)) /\ OldK s₁.heap s'.heap /\ s'.os=s₁.os /\ AllBare s'.gens) s₁:=by
  intro H hO hS hok hT hD hK
  have base_of:∀ {b:Addr} {o:Obj},s₁.heap.get? b=some o->H b=none->(hidT s₁.heap H).get? b=some o:=fun e n=>zji e n
  have noA:∀ {b:Addr} {o:Obj} {es:Array DictEntry} {ep:Nat},s₁.heap.get? b=some o->o.data=.dict es ep->H b=none:=fun {b o es ep} e d=>by
   cases q:H b with
   | none=>rfl
   | some u=>exact absurd d (hD b o es ep (by rw [q]; simp) e)
  have nsK:∀ {b:Addr} {m:Str->Option Value},s₁.heap.Ns b m->(hidT s₁.heap H).Ns b m:=fun {b m} ⟨o,es,ep,e,d,r⟩=>⟨o,es,ep,base_of e (noA e d),d,r⟩
  have hKb:(offC K0).In (hidT s₁.heap H):=fun b o e=>by
   have e0:K0.lookup b=some o:=by
    rw [zbm] at e
    split at e
    ·exact e
    ·cases e
   refine base_of (KX b o e0) ?_
   cases q:H b with
   | none=>rfl
   | some u=>rw [hK b (by rw [q]; simp)] at e; cases e
  have hM:Mod (offC K0) mg (hidT s₁.heap H):=⟨hKb,nsK hns,⟨mb,nsK hb,hbb⟩,let ⟨mc,h1,h2⟩:=hlim; ⟨mc,nsK h1,h2⟩⟩
  have e0:Env0 P w (offC K0) mg (hidT s₁.heap H) callerA [] s₁ H:=⟨rfl,hM,fun b o e=>zkl e,Nat.le_of_eq (zhv _ _),trivial,fun b hb=>absurd (show b∈([]:List Addr) from hb) (by simp),hok,.of_eq hg⟩
  refine codeAny_mono ((F _ hKb (nsK hns)).run callerA [] s₁ H ⟨[.ref a],[]⟩ [.ref a] [.ref a] _ _ hr e0 (hbind s₁ (.ref a)) (.cons rfl .nil) (hsp H hS hT)) fun r s' h=>?_
  cases r with
  | error e=>exact (hCX H e s' h).elim
  | ok fl=>
    cases fl with
    | next=>exact False.elim h
    | brk=>exact False.elim h
    | cont=>exact False.elim h
    | ret u=>
      obtain ⟨v,H',os,bare,un,hok',r',q⟩:=h
      have q':v=.bl true:=q
      subst q'
      obtain rfl:u=Value.bool true:=r'
      refine ⟨rfl,OldK.of_keep fun b o e=>?_,os,bare⟩
      cases q:H b with
      | none=>exact un.keep b o e q (by intro z; exact absurd (show b∈([]:List Addr) from z) (by simp)) (by simp)
      | some u=>
        rcases hO b with z | ⟨ob,xs,z⟩
        ·rw [q] at z; cases z
        ·have z2:=un.frzs b ob _ z
         obtain ⟨e1,_⟩:=hok b _ z
         obtain ⟨e2,_⟩:=hok' b _ z2
         rw [e] at e1; cases e1
         exact e2
 have hc1:∀ b,Hc K0 b=none \/ ∃ ob xs od its n sl,Hc K0 b=some (.frz ob (.tup xs)) /\ cstTab.lookup b=some xs /\ K0.lookup b=some ob /\ ob=⟨.type "tuple",od,.seq its n,sl⟩ /\ xs.length<=sizeLine /\ Vals xs its.toList:=by
  intro b
  unfold Hc
  cases q:cstTab.lookup b with
  | none=>exact .inl rfl
  | some xs=>
    obtain ⟨od,its,n,sl,e,h1,h2⟩:=C.tup b xs q
    refine .inr ⟨_,xs,od,its,n,sl,?_,rfl,e,rfl,h1,h2⟩
    show (K0.lookup b).map _=_
    rw [e]; rfl
 have hcO:∀ (H:Hp) b ob u,Hc K0 b=some (.frz ob u)->ObjOk P w H s₁.heap b (.frz ob u):=fun H b ob u e=>by
  rcases hc1 b with z | ⟨ob',xs,od,its,n,sl,z,_,z2,rfl,z3,z4⟩
  ·rw [z] at e; cases e
  ·rw [z] at e; cases e
   have hget:=KX b _ z2
   exact ⟨hget,z3,its.toList,z4,_,hget,rfl,n,by simp⟩
 have hcT:∀ p xs,(p,xs)∈cstTab->∃ ob,Hc K0 p=some (.frz ob (.tup xs)):=fun p xs m=>by
  obtain ⟨od,its,n,sl,e,_⟩:=C.tup p xs (C.one p xs m)
  refine ⟨⟨.type "tuple",od,.seq its n,sl⟩,?_⟩
  unfold Hc
  rw [C.one p xs m]
  show (K0.lookup p).map _=_
  rw [e]; rfl
 have hcD:∀ b o es ep,Hc K0 b≠none->s₁.heap.get? b=some o->o.data≠.dict es ep:=fun b o es ep z e d=>by
  rcases hc1 b with q | ⟨ob',xs,od,its,n,sl,q,_,z2,rfl,_⟩
  ·exact z q
  ·have hget:=KX b _ z2
   rw [hget] at e; cases e; cases d
 have hcK:∀ b,Hc K0 b≠none->(offC K0).lookup b=none:=fun b z=>by
  rcases hc1 b with q | ⟨ob',xs,od,its,n,sl,q,q2,_⟩
  ·exact absurd q z
  ·rw [zbm,q2]; rfl
 have hcF:∀ b,Hc K0 b=none \/ ∃ o u,Hc K0 b=some (.frz o u):=fun b=>by
  rcases hc1 b with q | ⟨ob',xs,od,its,n,sl,q,_⟩
  ·exact .inl q
  ·exact .inr ⟨_,_,q⟩
 cases hk:K0.lookup a with
 | some o=>
   have e:=KX a o hk
   rw [ha] at e
   cases e
   have hno:cstTab.lookup a=none:=by
    cases q:cstTab.lookup a with
    | none=>rfl
    | some xs=>
      obtain ⟨od,its,n,sl,e,_⟩:=C.tup a xs q
      rw [hk] at e
      exact absurd (congrArg Obj.cls (Option.some.inj e)) (by intro z; exact absurd (Value.type.inj z) (by decide))
   refine core (Hc K0) hcF (.inr ⟨vs,_,by rw [zbm,hno]; exact hk,by rw [lenV]; exact hl,rv⟩) (fun b u z=>?_) (fun p xs m=>.inr (hcT p xs m)) hcD hcK
   rcases hcF b with q | ⟨ob,u',q⟩
   ·rw [q] at z; cases z
   ·rw [q] at z; cases z
    exact hcO _ b ob u' q
 | none=>
   have hno:cstTab.lookup a=none:=by
    cases q:cstTab.lookup a with
    | none=>rfl
    | some xs=>
      obtain ⟨od,its,n,sl,e,_⟩:=C.tup a xs q
      rw [hk] at e; cases e
   have hna:Hc K0 a=none:=by unfold Hc; rw [hno]
   refine core (fun b=>if b=a then some (.frz { cls:=.type "list",data:=.seq vs.toArray } (.lst (ns.map V.int))) else Hc K0 b) (fun b=>?_) (.inl (.inr ⟨{ cls:=.type "list",data:=.seq vs.toArray },if_pos rfl⟩)) (fun b u z=>?_) (fun p xs m=>?_) (fun b o es ep z e d=>?_) fun b z=>?_
   ·by_cases hb:b=a
    ·exact .inr ⟨_,_,if_pos hb⟩
    ·rcases hcF b with q | ⟨ob,u,q⟩
     ·exact .inl ((if_neg hb).trans q)
     ·exact .inr ⟨ob,u,(if_neg hb).trans q⟩
   ·by_cases hb:b=a
    ·have z':=(if_pos hb).symm.trans z
     cases z'
     subst hb
     exact ⟨ha,by rw [List.length_map]; exact hl,vs,_,rv,ha⟩
    ·have z':=(if_neg hb).symm.trans z
     rcases hcF b with q | ⟨ob,u',q⟩
     ·rw [q] at z'; cases z'
     ·rw [q] at z'; cases z'
      exact hcO _ b ob u' q
   ·obtain ⟨ob,q⟩:=hcT p xs m
    refine .inr ⟨ob,?_⟩
    have hb:p≠a:=fun e=>by rw [e,hna] at q; cases q
    exact (if_neg hb).trans q
   ·by_cases hb:b=a
    ·subst hb
     rw [ha] at e; cases e; cases d
    ·exact hcD b o es ep (fun q=>z ((if_neg hb).trans q)) e d
   ·by_cases hb:b=a
    ·subst hb
     rw [zbm,hno]; exact hk
    ·exact hcK b fun q=>z ((if_neg hb).trans q)
theorem zjm {l:PySem.W.OpenLaw} {n k:Nat} {q:Program} {loose:List Str} {XP:(Str->Option Value)->Heap->Prop} {YP:World->Heap->Prop} {d:DefRec} {K:Params->PySem.W.Frag} {CX:World->CXT} {sp:World->Sp} {x:Str}
  (hn:l.most=some n) (hn2:n<=sizeLine) (hdf:d.params.defaults=[]) (hr:Room k callerA) (hY:∀ (w:World) (h:Heap),YP w h->(K w.params).In h)
  (F:∀ (w:World) (mg:Str->Option Value) (fa:Addr) (h:Heap),(K w.params).In h->h.Ns mainGlobals mg->mg d.name=some (.ref fa)->CstOk (K w.params) /\
   ∃ fd:FuncData,(∀ (s:Shared) (u:Value),BindsTo s fd ⟨[u],[]⟩ [(x,u)]) /\ ∀ base:Heap,(offC (K w.params)).In base->base.Ns mainGlobals mg->FnOk l.prog w (offC (K w.params)) mg base (CX w) k fa fd [x] (sp w))
  (hsp:∀ (w:World) (H:Hp) (a:Addr) (ns:List Int),ns.length<=n->LsD (offC (K w.params)) H a (ns.map V.int)->(∀ p xs,(p,xs)∈cstTab->TupT H p xs)->sp w [.ref a] H (fun v _=>v=.bl true) fun _ _ _=>False)
  (hCX:∀ (w:World) (H:Hp) (s:Shared) (e:Value) (s':Shared),CX w [] H s (fun _ _ _=>False) e s'->False):
  PySem.W.WalkO q loose XP YP l.row.toRowW d [] (fun f vs=>PySem.call f vs):=by
 refine Att.zfg hn hdf fun w s₀ s₁ mg mb fa o pm cd doc a vs ns G Y ho hd hcd hmg hobj hints hlen hg=>?_
 have KX:=hY w _ Y
 obtain ⟨C,fd,hb,hF⟩:=F w mg fa _ KX G.T.g hmg
 exact zhM C KX G.T.g G.T.b G.T.builtins G.T.nolimit hg hobj hints (Nat.le_trans hlen hn2) hr hF hb (fun H hS hT=>hsp w H a ns hlen hS hT) fun H e s'=>hCX w H s₁ e s'
end L2
namespace L2
open PySem PySem.Spec PyProof.Rows
section
variable {X:Cx}
end
end L2
namespace L2
open PySem PySem.Spec PyProof.Rows
set_option tactic.hygienic true in
theorem zkX (gi:DS->Option (List D)) (ix:List Nat) (ge:DS->Option D):gComp gi ix ge=gCompL gi 1 ix (gName' 0) (fun _=>some true) ge:=by
 funext δ
 unfold gComp gCompL
 cases gi δ with
 | none=>rfl
 | some ds=>
   rw [Option.bind_some,Option.bind_some]
   split
   ·induction ds with
    | nil=>rfl
    | cons d ds ih=>
      rename_i h
      rw [mapD,fltD,ih (by rw [List.length_cons] at h; omega)]
      show _=Option.bind (Option.map some (ge (some d :: captD ix δ))) _
      cases ge (some d :: captD ix δ) <;> rfl
   ·rfl
section
variable {X:Cx} {O:List Nat} {gi:DS->Option (List D)} {ix:List Nat} {ge:DS->Option D}
theorem PE.asC {e:Expr} (h:PE X e (tN X.K O (gCompL gi 1 ix (gName' 0) (fun _=>some true) ge))):PE X e (tN X.K O (gComp gi ix ge)):=by rw [zkX]; exact h
end
end L2
namespace L2
open PySem PySem.Spec PyProof.Rows PySem.Calls
set_option maxRecDepth 100000
section
variable {prog:Program} {w:World} {A:Around} {E:Value->Shared->Prop} {s:Shared}
end
section
variable {X:Cx} {O:List Nat} {a:Expr} {ge:DS->Option D} {p1 p2 q1 q2:Pos} {ta:TA}
end
end L2
namespace L2
open PySem PySem.Spec PyProof.Rows
section
variable {X:Cx} {O:List Nat} {tg e o y:Expr} {ge go:DS->Option D} {apos cpos:Pos}
theorem HD.text {K:PySem.W.Frag} {H:Hp} {v:V} {x:Str} (h:HD K H v (.str x)):v=.str x:=by cases h; rfl
theorem ShD.text {K:PySem.W.Frag} {A:List Addr} {H:Hp} {v:V} {x:Str} (h:ShD K A H v (.str x)):v=.str x:=by
 rcases h with h | ⟨l,o,rfl,e,q⟩
 ·exact h.text
 ·cases q
end
end L2
namespace L2
open PySem PySem.Spec PyProof.Rows
section
variable {X:Cx} {O:List Nat} {o e:Expr} {ga go ge:DS->Option D} {lo hi:Option Expr} {gl gh:DS->Option (Option Int)} {apos cpos pos p2:Pos}
theorem zfi {v:Value} {i:Option Int} (h:IsPart v i):∃ l:Option (Int×Tok),v=partValue l /\ l.map (·.1)=i:=by
 cases h with
 | none=>exact ⟨none,rfl,rfl⟩
 | int i t=>exact ⟨some (i,t),rfl,rfl⟩
noncomputable def rCount:V->List V->Hp->VK->Prop:=fun x vs H Q=>∃ a b,x=.str a /\ vs=[.str b] /\ Q (.int (Txt.count a b)) H
theorem ziR:MtR X "str.count" rCount:=by
 intro pins s σ H x vs v us Q I rx rv h
 obtain ⟨a,b,rfl,rfl,q⟩:=h
 obtain ⟨t,rfl⟩:=rx
 obtain ⟨u,rfl,t',rfl⟩:=vals1 rv
 exact SC.count ⟨.int _,H,I.tok _,⟨_,rfl⟩,q⟩
noncomputable def gCount (go ge:DS->Option D):DS->Option D:=fun δ=>(go δ).bind fun s=>(ge δ).bind fun x=>match s,x with
 | .str a,.str b=>some (.int (Txt.count a b))
 | _,_=>none
theorem zi6 (ho:PE X o (tSh X.K O go)) (he:PE X e (tSh X.K O ge)) (hbase:attributeBase o "count" X.env (eval o X.env)=eval o X.env:=by rfl)
  (hfew:((backTo cpos (starEach [e] X.env)).all (fun x=> !x.1) && (backToKw cpos (keywordEach [] X.env)).all (fun x=>x.1.isSome) && decide ([e].length + ([]:List Keyword).length + (if ([]:List Keyword).isEmpty then 0 else 1) < 30))=true:=by rfl)
  (hline:(apos.endLine == cpos.line)=true:=by rfl) (hs:starEach [e] X.env=[(false,eval e X.env)]:=by rfl) (hs0:starEach ([]:List Expr) X.env=[]:=by rfl):
  PE X (.Call (.Attribute o "count" apos) [e] [] cpos) (tE X.K O (gCount go ge)):=
 (zcm PySem.F.plainAttrs_str PySem.F.slot_str_count PySem.F.type_str_count ziR ho (zC he zY (by rw [hs,hs0])) hbase hfew hline (by rw [hs,hs0]) (by rw [hs0]; rfl)).mono fun σ H Q hh=>hh.e fun U A0 δ d R ed q=>by
  obtain ⟨s,e1,ed⟩:=bind1 ed
  obtain ⟨x,e2,ed⟩:=bind1 ed
  cases s with
  | str a=>
    cases x with
    | str b=>
      cases ed
      refine ⟨U,A0,δ,_,R,e1,fun v H1 s1 h1=>?_⟩
      rw [h1.text]
      refine ⟨rfl,U,A0,δ,_,R.same s1,e2,fun w H2 s2 h2=>?_⟩
      rw [h2.text]
      exact ⟨a,b,rfl,rfl,q _ H2 (s1.trans s2) (.int _)⟩
    | _=>cases ed
  | _=>cases ed
end
end L2
namespace L2
open PySem PySem.Spec PySem.W PyProof.Rows
noncomputable def rGeS:R2:=fun x y H Q=>∃ a b,x=.str a /\ y=.str b /\ Q (.bl (!(decide (a.cps.toList < b.cps.toList)))) H
theorem zlj {X:Cx}:OpR X (compareOp .GtE) rGeS:=by
 intro pins s σ H x y v u Q I rx ry h
 obtain ⟨a,b,rfl,rfl,q⟩:=h
 obtain ⟨t,rfl⟩:=rx
 obtain ⟨t',rfl⟩:=ry
 exact P.ge_str ⟨.bl _,H,I,rfl,q⟩
noncomputable def dGeS:D->D->Option D
 | .str a,.str b=>some (.bool (!(decide (a.cps.toList < b.cps.toList))))
 | _,_=>none
theorem zkM {K:Frag}:Imp2 K rGeS dGeS:=by
 intro A H x y dx dy d Q al hx hy e q
 unfold dGeS at e
 split at e
 ·cases e
  exact ⟨_,_,hx.str,hy.str,q _ H (Same.refl H) (.bl _)⟩
 ·cases e
section
variable {X:Cx} {O:List Nat} {o e:Expr} {go ge:DS->Option D} {cpos apos:Pos}
noncomputable def rStarts:V->List V->Hp->VK->Prop:=fun x vs H Q=>∃ a b,x=.str a /\ vs=[.str b] /\ Q (.bl (Txt.startswith a b)) H
theorem zhk:MtR X "str.startswith" rStarts:=by
 intro pins s σ H x vs v us Q I rx rv h
 obtain ⟨a,b,rfl,rfl,q⟩:=h
 obtain ⟨t,rfl⟩:=rx
 obtain ⟨u,rfl,t',rfl⟩:=vals1 rv
 exact SC.startswith ⟨.bl _,H,I,rfl,q⟩
noncomputable def gStarts (go ge:DS->Option D):DS->Option D:=fun δ=>(go δ).bind fun s=>(ge δ).bind fun x=>match s,x with
 | .str a,.str b=>some (.bool (Txt.startswith a b))
 | _,_=>none
theorem zg9 (ho:PE X o (tSh X.K O go)) (he:PE X e (tSh X.K O ge)) (hbase:attributeBase o "startswith" X.env (eval o X.env)=eval o X.env:=by rfl)
  (hfew:((backTo cpos (starEach [e] X.env)).all (fun x=> !x.1) && (backToKw cpos (keywordEach [] X.env)).all (fun x=>x.1.isSome) && decide ([e].length + ([]:List Keyword).length + (if ([]:List Keyword).isEmpty then 0 else 1) < 30))=true:=by rfl)
  (hline:(apos.endLine == cpos.line)=true:=by rfl) (hs:starEach [e] X.env=[(false,eval e X.env)]:=by rfl) (hs0:starEach ([]:List Expr) X.env=[]:=by rfl):
  PE X (.Call (.Attribute o "startswith" apos) [e] [] cpos) (tE X.K O (gStarts go ge)):=
 (zcm PySem.F.plainAttrs_str PySem.F.slot_str_startswith PySem.F.type_str_startswith zhk ho (zC he zY (by rw [hs,hs0])) hbase hfew hline (by rw [hs,hs0]) (by rw [hs0]; rfl)).mono<|by
  rintro σ H Q ⟨U,A0,δ,d,R,ed,q⟩
  obtain ⟨s,e1,ed⟩:=bind1 ed
  obtain ⟨x,e2,ed⟩:=bind1 ed
  cases s with
  | str a=>
    cases x with
    | str b=>
      cases ed
      refine ⟨U,A0,δ,_,R,e1,fun v H1 s1 h1=>⟨by rw [h1.str]; rfl,U,A0,δ,_,R.same s1,e2,fun v2 H2 s2 h2=>?_⟩⟩
      rw [h1.str,h2.str]
      exact ⟨a,b,rfl,rfl,q _ H2 (s1.trans s2) (.bl _)⟩
    | _=>cases ed
  | _=>cases ed
end
end L2
namespace L2
open PySem PySem.Spec PyProof.Rows
noncomputable def gSetPop (i j:Nat):DS->Option Res:=fun δ=>(gVar j δ).bind fun x=>match x with
 | .list ds=>(ds[ds.length - 1]?).bind fun d=>some (.nx ((δ.set j (some (.list ds.dropLast))).set i (some d)))
 | _=>none
section
variable {X:Cx} {O:List Nat} {fr:Fr} {st:Stmt}
theorem zhG {i j:Nat} (h:PS X st (tAsg (tBM0 X.K "list" rPop (tVar j)) (gName i))) (hj:j∈O:=by decide) (hi:i∉O:=by decide):PS X st (tS X.K O fr (gSetPop i j)):=h.mono fun E σ H hh=>hh.e fun H0 U A0 δ r R F ed P=>by
 obtain ⟨x,e1,e2⟩:=bind1 ed
 rcases R.owL j x hj (zB e1) with ⟨l,ys,ds,hl,rfl,hU,h1,h2⟩ | ⟨kds,rfl⟩
 rotate_left
 ·(exfalso; simp_all; done)
 simp only at e2
 obtain ⟨d,e3,e4⟩:=bind1 e2
 cases e4
 have hlen:=h2.len
 have hpos:=(List.getElem?_eq_some_iff.mp e3).1
 obtain ⟨y,hy,hyd⟩:=h2.get e3
 rw [<- hlen] at hy
 refine ⟨.ref l,hl,.inl ⟨rfl,ys,SqL.of h1⟩,l,ys,y,rfl,rfl,h1,hy,?_⟩
 refine P U _ _ ((R.put hj hl hU h2.dropLastD ⟨_,zB e1⟩).set hi ?_) (F.put hU _)
 rw [ziq (List.mem_append_left _ hU)]
 exact hyd
end
end L2
namespace L2
open PySem PySem.Spec PyProof.Rows
noncomputable def sumI:List Int->Int
 | []=>0
 | n :: ns=>n + sumI ns
theorem zfu:∀ a b:List Int,sumI (a ++ b)=sumI a + sumI b
 | [],b=>by rw [List.nil_append,sumI,Int.zero_add]
 | x :: a,b=>by rw [List.cons_append,sumI,zfu a b,sumI,Int.add_assoc]
theorem zim (ns:List Int):∀ k,k<=ns.length->preSum (fun i=>ns.getD i 0) k=sumI (ns.take k)
 | 0,_=>rfl
 | k + 1,h=>by
   have hk:k < ns.length:=h
   rw [preSum,zim ns k (Nat.le_of_lt hk),List.take_add_one,List.getElem?_eq_getElem hk,zfu,List.getD_eq_getElem?_getD,List.getElem?_eq_getElem hk]
   show _=_ + (ns[k] + 0)
   rw [Int.add_zero]; rfl
theorem zee {X:Cx} (hc:X.calm=true):CallR X (.builtin "sum") (fun xs H Q=>∃ (p:Addr) (ns:List Int),xs=[.ref p] /\ SqL X.K H p (ns.map V.int) /\ Q (.int (sumI ns)) H):=by
 intro pins s σ H xs us Q I r h
 obtain ⟨p,ns,rfl,hq,q⟩:=h
 obtain ⟨u,rfl,rx⟩:=vals1 r
 cases rx
 obtain ⟨its,rv,pl,_⟩:=I.list hq
 have hl:=rv.length
 rw [List.length_map] at hl
 have hlt:p≠s.heap.objs.size:=by
  obtain ⟨o,n,e1,_⟩:=pl
  exact Nat.ne_of_lt (Heap.lt_size e1)
 refine call_sum_walkAnyS (wpAny_pyIter_list pl.isList ?_)
 refine ⟨s.heap.objs.size,[s.heap.objs.size,p],[s.heap.objs.size],_,_,_,_,fun i=>ns.getD i 0,rfl,(Walks.list (A:=X.A.in1) (I.ok.hd hc) _ p hlt its.toArray).toS,⟨⟨_,Heap.get?_push_size _ rfl,rfl,rfl⟩,pl.isList.push _⟩,fun b hb=>?_,fun i v hP=>?_,fun s' t' mv=>?_⟩
 ·rw [Heap.size_push]
  rcases List.mem_cons.mp hb with z | z
  ·rw [z]; exact Nat.lt_succ_self _
  ·rw [List.mem_singleton.mp z]
   obtain ⟨o,n,e1,_⟩:=pl
   exact Nat.lt_succ_of_lt (Heap.lt_size e1)
 ·have hP':its[i]?=some v:=by simpa using hP
  have hi:=(List.getElem?_eq_some_iff.mp hP').1
  obtain ⟨w',hw,rw'⟩:=rv.get (i:=i) (x:=V.int (ns.getD i 0)) (by rw [List.getElem?_map,List.getD_eq_getElem?_getD,List.getElem?_eq_getElem (by omega)]; rfl)
  rw [hP'] at hw; cases hw
  exact rw'
 ·have e:preSum (fun i=>ns.getD i 0) its.toArray.size=sumI ns:=by
   rw [List.size_toArray,<- hl,zim ns _ (Nat.le_refl _),List.take_length]
  rw [e]
  obtain ⟨hx,gx,dx,tx,ox⟩:=s'
  have eg:gx=s.gens:=mv.gens
  have ed:dx=s.drawn:=mv.drawn
  have eo:ox=s.os:=mv.os
  subst eg ed eo
  refine ⟨.int (sumI ns),H,I.kept (h':=hx) (t':=tx) fun b o e=>mv.heap b o (fun z=>?_) (Heap.get?_push_of_some _ e),⟨t',rfl⟩,q⟩
  rw [List.mem_singleton] at z
  exact absurd (Heap.lt_size e) (by rw [z]; exact Nat.lt_irrefl _)
theorem zkb:bootBuiltins "sum"=some (.builtin "sum"):=by decide +kernel
noncomputable def dSum:List D->Option D
 | [.list l]=>(intsD l).map fun ns=>.int (sumI ns)
 | _=>none
set_option tactic.hygienic true in
theorem zgI {K:PySem.W.Frag}:ImpC K (fun xs H Q=>∃ (p:Addr) (ns:List Int),xs=[.ref p] /\ SqL K H p (ns.map V.int) /\ Q (.int (sumI ns)) H) dSum:=by
 intro A H vs ds d Q al h e q
 unfold dSum at e
 split at e
 ·rename_i l
  cases hl:intsD l with
  | none=>rw [hl] at e; cases e
  | some ns=>
    rw [hl] at e; cases e
    have:=zbx hl
    subst this
    cases h with
    | cons h1 h2=>
      cases h2
      obtain ⟨p,ys,rfl,hp,hy⟩:=h1.list
      have:=HDs.toInts hy
      subst this
      exact ⟨p,ns,rfl,hp.sq,q _ H (Same.refl H) (.int _)⟩
 ·cases e
end L2
namespace L2
open PySem PySem.Spec PySem.W PyProof.Rows
theorem zdt:entryFor table "proto.unchain"=some Builtin.«proto.unchain»:=entryFor_of_fast (by kernel_rfl)
section
variable {prog:Program} {w:World} {A:Around} {E:Value->Shared->Prop} {s:Shared}
theorem zej {x:Addr} {ox:Obj} {fs:Array Value} {e:Value} {Q:Value->Shared->Prop} (ho:s.heap.get? x=some ox) (hd:ox.data=.fields fs) (h2:fs[2]?=some Value.none) (hQ:Q .none s):
  wpAny (model prog w) A (runValue (.builtin "proto.unchain" ⟨[e,.ref x,.ref x,.bool false],[]⟩)) Q E s:=by
 refine wpAny_runValue (codeAny_builtin zdt ?_)
 unfold Builtin.«proto.unchain»
 show wpAny _ _ (field (.ref x) 2 >>= _) _ _ s
 refine wpAny_bind (wpAny_field ho hd h2 ?_)
 exact wpAny_pure hQ
theorem zeJ {α:Type} {a x:Addr} {ox oa:Obj} {fs va:Array Value} {Q:α->Shared->Prop} (hh:A.handled=some (.ref x)) (hne:x≠a) (ho:s.heap.get? x=some ox) (hd:ox.data=.fields fs) (h2:fs[2]?=some Value.none)
  (hoa:s.heap.get? a=some oa) (hda:oa.data=.fields va) (hsz:2 < va.size) (hE:E (.ref a) { s with heap:=s.heap.update a (Obj.mapFields (·.setIfInBounds 2 (.ref x))) }):
  wpAny (model prog w) A (raiseNew (α:=α) (.ref a)) Q E s:=by
 unfold raiseNew
 refine wpAny_bind (wpAny_handled ?_)
 rw [hh]
 have hb:(Value.ref x != Value.ref a)=true:=bne_iff_ne.mpr fun e=>hne (Value.ref.inj e)
 show wpAny _ _ (if (Value.ref x != Value.ref a)=true then _ else _) _ _ s
 rw [if_pos hb]
 refine wpAny_bind (wpAny_holding (zej ho hd h2 ?_))
 refine wpAny_bind ?_
 unfold updateField
 refine wpAny_bind (wpAny_load hoa ?_)
 rw [hda]
 dsimp only
 rw [if_pos hsz]
 refine wpAny_update hoa ?_
 exact wpAny_throw hE
theorem zdq {it x:Addr} {ox:Obj} {fs:Array Value} {y left step:Int} {Q:Option Value->Shared->Prop} (hh:A.handled=some (.ref x)) (ho:s.heap.get? x=some ox) (hd:ox.data=.fields fs) (h2:fs[2]?=some Value.none)
  (hit:IsRangeIter s.heap it y left step) (hleft:left<=0) (hQ:∀ h',Heap.ExtBut it s.heap h'->Q none { s with heap:=h' }):wpAny (model prog w) A (pyNext (.ref it)) Q E s:=by
 have hT:s.TypeIs (.ref it) "range_iterator":=⟨_,hit,rfl⟩
 unfold pyNext
 refine wpAny_bind (wpAny_attempt (wpAny_callSpecial?_slot (name:=Str.ofString "__next__") hT F.slot_range_iterator_next
  (wpAny_call_entry F.slot_range_iterator_next hT F.entry_range_iterator_next ?_ (F.args_range_iterator_next_1 _))))
 show wpAny _ _ (field (.ref it) 0 >>= _) _ _ s
 refine wpAny_bind (wpAny_field hit rfl (x:=rawInt y) rfl ?_)
 show wpAny _ _ (field (.ref it) 1 >>= _) _ _ s
 refine wpAny_bind (wpAny_field hit rfl (x:=rawInt left) rfl ?_)
 show wpAny _ _ (field (.ref it) 2 >>= _) _ _ s
 refine wpAny_bind (wpAny_field hit rfl (x:=rawInt step) rfl ?_)
 show wpAny _ _ (if left<=0 then _ else _) _ _ s
 rw [if_pos hleft]
 refine wpAny_bind (wpAny_rule ?_)
 refine wpAny_bind ?_
 show wpAny _ _ (newExc (.type "StopIteration") [] >>= _) _ _ _
 refine wpAny_bind ?_
 simp only [newExc,newTuple]
 refine wpAny_bind (wpAny_newObj_type ?_ (by size_fits))
 refine wpAny_bind (m:=firstArgMember _ _) (wpAny_of_eq (a:=Value.none) (by first | rfl | (simp only [firstArgMember]; rfl)) ?_)
 refine wpAny_newObj_type ?_ (by size_fits)
 have hx:x < s.heap.objs.size:=Heap.lt_size ho
 refine zeJ (x:=x) hh ?_ (Heap.get?_push_of_some _ (Heap.get?_push_of_some _ ho)) hd h2 (Heap.get?_push_size _ rfl) rfl (by rw [Array.size_append]; exact Nat.lt_of_lt_of_le (show 2 < 6 by decide) (Nat.le_add_right _ _)) ?_
 ·intro e
  rw [e] at hx
  have:s.heap.objs.size<=(s.heap.push { cls:=.type "tuple",data:=.seq [].toArray }).objs.size:=by simp [Heap.push]
  exact absurd (Nat.lt_of_lt_of_le hx this) (Nat.lt_irrefl _)
 ·refine wpAny_bind (wpAny_isInstance (T:="StopIteration") (b:=true) ⟨_,Heap.get?_update_self _ (Heap.get?_push_size _ rfl) ?_,?_⟩ isSubtype_stop ?_)
  ·exact Obj.isFreed_of_fields (Obj.data_mapFields rfl _)
  ·exact (Obj.cls_mapFields ..).trans rfl
  ·refine wpAny_pure (hQ _ fun b o hb e=>?_)
   have e2:=Heap.get?_push_of_some { cls:=.type "tuple",data:=.seq [].toArray } e
   refine (((Heap.SameBut.update ..).2 b ?_).trans (Heap.get?_push_of_some _ e2))
   intro z
   have:=Heap.lt_size e2
   rw [z] at this
   exact absurd this (Nat.lt_irrefl _)
end
end L2
namespace L2
open PySem
noncomputable def Nx0 (M:Model) (Γ:Ctx) (p:Pos) (t:Sem Fin) (s:Shared) (e:End) (s':Shared):Prop:=match t with
 | .pure (.done f)=>e=.ret (.ok f) /\ s'=s
 | .pure (.again c)=>Runs M (Γ.goto c) p (M.den c) [] s e s'
 | .raise x=>e=.ret (.error x) /\ s'=s
 | .rule _ k=>Runs M Γ p (k ()) [] s e s'
 | .at p' k=>Runs M Γ p' (k ()) [] s e s'
 | .load a _ k=>∃ o,s.heap.get? a=some o /\ Runs M Γ p (k o) [] s e s'
 | .update a _ f k=>Runs M Γ p (k ()) [] { s with heap:=s.heap.update a f } e s'
 | .loadIfAlive a k=>Runs M Γ p (k (s.heap.get? a)) [] s e s'
 | .point _ k=>Runs M Γ p (k ()) [] s e s'
 | .alloc o k=>Runs M Γ p (k s.heap.objs.size) [] { s with heap:=s.heap.push o } e s'
 | .fresh k=>Runs M Γ p (k s.toks) [] { s with toks:=s.toks + 1 } e s'
 | .ask k=>Runs M Γ p (k ⟨M.prog,M.w.params⟩) [] s e s'
 | .choose src n k=>Runs M Γ p (k (M.w.draws src (s.drawn.get src) % n)) [] { s with drawn:=s.drawn.bump src } e s'
 | .os q _ k=>Runs M Γ p (k (Os.step s.os q).2) [] { s with os:=(Os.step s.os q).1 } e s'
 | .handled own k=>Runs M Γ p (k (if own then Γ.own else Γ.handled)) [] s e s'
 | .genState g k=>∃ st,s.gens[g]?=some st /\ Runs M Γ p (k st.seen) [] s e s'
 | .stack k=>Runs M Γ p (k ((Γ.code,p) :: Γ.below)) [] s e s'
 | .thread k=>Runs M Γ p (k 0) [] s e s'
 | .newGen c k=>Runs M Γ p (k s.gens.size) [] { s with gens:=s.gens.push (.fresh c) } e s'
 | .call c h g l k=>∃ e1 s1,Runs M (Γ.enter c h p) p (M.den c) [] s e1 s1 /\ ((∃ r,e1=.ret r /\ Runs M Γ p (k r) [] s1 e s') \/ ∃ v g₀ l₀ k₀ c₀ p₀ fs,e1=.susp v g₀ l₀ k₀ c₀ p₀ fs /\ s'=s1 /\ e=.susp v g₀ l₀ k₀ c₀ p₀ (fs ++ [.ret k h g l Γ.code p []]))
 | .yield v g l k=>e=.susp v g l k Γ.code p [] /\ s'=s
 | .resume g r _ k=>∃ st,s.gens[g]?=some st /\ ((∃ c,st=.fresh c /\ ((r=.send .none /\ ∃ e1 s1,Runs M (Γ.wake c p) p (M.den c) [] (s.setGen g .running) e1 s1 /\ Runs M Γ p (k e1.result) [] (s1.setGen g e1.genState) e s') \/ (∃ v,r=.send v /\ v≠.none /\ Runs M Γ p (k .justStarted) [] s e s') \/ ∃ x,r=.throw x /\ Runs M Γ p (k (.raised x)) [] (s.setGen g .finished) e s')) \/
   (∃ k₀ l₀ c₀ p₀ fs cl,st=.suspended k₀ l₀ c₀ p₀ fs cl /\ ∃ e1 s1,Runs M (Γ.wake c₀ p) p₀ (k₀ r) fs (s.setGen g .running) e1 s1 /\ Runs M Γ p (k e1.result) [] (s1.setGen g e1.genState) e s') \/
   (st=.running /\ Runs M Γ p (k .running) [] s e s') \/ (st=.finished /\ Runs M Γ p (k .finished) [] s e s'))
 | _=>False
noncomputable def NxF (M:Model) (Γ:Ctx) (p:Pos) (t:Sem Fin) (F:Frame) (fs:List Frame) (s:Shared) (e:End) (s':Shared):Prop:=∃ e1 s1,Runs M (Γ.over (F :: fs)) p t [] s e1 s1 /\
 ((∃ k h g l c₁ p₁ kp r,F=.ret k h g l c₁ p₁ kp /\ e1=.ret r /\ Runs M (Γ.goto c₁) p₁ (k r) fs s1 e s') \/ (∃ g k l c₁ p₁ r,F=.gen g k l c₁ p₁ /\ e1=.ret r /\ Runs M (Γ.goto c₁) p₁ (k (End.ret r).result) fs (s1.setGen g .finished) e s') \/
  ∃ v g₀ l₀ k₀ c₀ p₀ fs₀,e1=.susp v g₀ l₀ k₀ c₀ p₀ fs₀ /\ ((splitAtGen (F :: fs)=none /\ s'=s1 /\ e=.susp v g₀ l₀ k₀ c₀ p₀ (fs₀ ++ F :: fs)) \/
    ∃ pre g k c₁ p₁ rest,splitAtGen (F :: fs)=some (pre,(g,k,c₁,p₁),rest) /\ Runs M (Γ.goto c₁) p₁ (k (.yielded v)) rest (s1.setGen g (End.susp v g₀ l₀ k₀ c₀ p₀ (fs₀ ++ pre)).genState) e s'))
noncomputable def Nxt (M:Model) (Γ:Ctx) (p:Pos) (t:Sem Fin) (fs:List Frame) (s:Shared) (e:End) (s':Shared):Prop:=match fs with
 | []=>Nx0 M Γ p t s e s'
 | F :: fs=>NxF M Γ p t F fs s e s'
theorem zi {M:Model} {Γ:Ctx} {p:Pos} {t:Sem Fin} {fs:List Frame} {s:Shared} {e:End} {s':Shared} (h:Runs M Γ p t fs s e s'):Nxt M Γ p t fs s e s':=by
 cases h with
 | done=>exact ⟨rfl,rfl⟩
 | raise=>exact ⟨rfl,rfl⟩
 | again _ r=>exact r
 | rule r=>exact r
 | «at» r=>exact r
 | load g r=>exact ⟨_,g,r⟩
 | update _ r=>exact r
 | loadIfAlive r=>exact r
 | point r=>exact r
 | alloc r=>exact r
 | fresh r=>exact r
 | ask r=>exact r
 | choose _ r=>exact r
 | os r=>exact r
 | handled r=>exact r
 | genState g r=>exact ⟨_,g,r⟩
 | stack r=>exact r
 | thread r=>exact r
 | newGen r=>exact r
 | call a b=>exact ⟨_,_,a,.inl ⟨_,rfl,b⟩⟩
 | callSusp a=>exact ⟨_,_,a,.inr ⟨_,_,_,_,_,_,_,rfl,rfl,rfl⟩⟩
 | yield=>exact ⟨rfl,rfl⟩
 | resumeFresh g a _ b=>exact ⟨_,g,.inl ⟨_,rfl,.inl ⟨rfl,_,_,a,b⟩⟩⟩
 | resumeSuspended g a _ b=>exact ⟨_,g,.inr (.inl ⟨_,_,_,_,_,_,rfl,_,_,a,b⟩)⟩
 | resumeJustStarted g n b=>exact ⟨_,g,.inl ⟨_,rfl,.inr (.inl ⟨_,rfl,n,b⟩)⟩⟩
 | resumeThrowFresh g b=>exact ⟨_,g,.inl ⟨_,rfl,.inr (.inr ⟨_,rfl,b⟩)⟩⟩
 | resumeRunning g b=>exact ⟨_,g,.inr (.inr (.inl ⟨rfl,b⟩))⟩
 | resumeFinished g b=>exact ⟨_,g,.inr (.inr (.inr ⟨rfl,b⟩))⟩
 | segRet a b=>exact ⟨_,_,a,.inl ⟨_,_,_,_,_,_,_,_,rfl,rfl,b⟩⟩
 | segGen a b=>exact ⟨_,_,a,.inr (.inl ⟨_,_,_,_,_,_,rfl,rfl,b⟩)⟩
 | segSuspOut g a=>exact ⟨_,_,a,.inr (.inr ⟨_,_,_,_,_,_,_,rfl,.inl ⟨g,rfl,rfl⟩⟩)⟩
 | segSuspGen g a _ b=>exact ⟨_,_,a,.inr (.inr ⟨_,_,_,_,_,_,_,rfl,.inr ⟨_,_,_,_,_,_,g,b⟩⟩)⟩
theorem zdx {M:Model} {Γ:Ctx} {p:Pos} {t:Sem Fin} {fs:List Frame} {s:Shared} {e:End} {s':Shared} (h:Runs M Γ p t fs s e s'):∀ {e2:End} {s2:Shared},Runs M Γ p t fs s e2 s2->e=e2 /\ s'=s2:=by
 induction h with
 | done=>intro e2 s2 h2; obtain ⟨rfl,rfl⟩:=zi h2; exact ⟨rfl,rfl⟩
 | raise=>intro e2 s2 h2; obtain ⟨rfl,rfl⟩:=zi h2; exact ⟨rfl,rfl⟩
 | again _ _ ih=>intro e2 s2 h2; exact ih (zi h2)
 | rule _ ih=>intro e2 s2 h2; exact ih (zi h2)
 | «at» _ ih=>intro e2 s2 h2; exact ih (zi h2)
 | load g _ ih=>intro e2 s2 h2; obtain ⟨o,g2,r⟩:=zi h2; cases g.symm.trans g2; exact ih r
 | update _ _ ih=>intro e2 s2 h2; exact ih (zi h2)
 | loadIfAlive _ ih=>intro e2 s2 h2; exact ih (zi h2)
 | point _ ih=>intro e2 s2 h2; exact ih (zi h2)
 | alloc _ ih=>intro e2 s2 h2; exact ih (zi h2)
 | fresh _ ih=>intro e2 s2 h2; exact ih (zi h2)
 | ask _ ih=>intro e2 s2 h2; exact ih (zi h2)
 | choose _ _ ih=>intro e2 s2 h2; exact ih (zi h2)
 | os _ ih=>intro e2 s2 h2; exact ih (zi h2)
 | handled _ ih=>intro e2 s2 h2; exact ih (zi h2)
 | genState g _ ih=>intro e2 s2 h2; obtain ⟨o,g2,r⟩:=zi h2; cases g.symm.trans g2; exact ih r
 | stack _ ih=>intro e2 s2 h2; exact ih (zi h2)
 | thread _ ih=>intro e2 s2 h2; exact ih (zi h2)
 | newGen _ ih=>intro e2 s2 h2; exact ih (zi h2)
 | call _ _ ih1 ih2=>
   intro e2 s2 h2
   obtain ⟨e1,s1,a,⟨r,rfl,b⟩ | ⟨_,_,_,_,_,_,_,rfl,_,_⟩⟩:=zi h2
   ·obtain ⟨x,rfl⟩:=ih1 a; cases x; exact ih2 b
   ·obtain ⟨x,_⟩:=ih1 a; cases x
 | callSusp _ ih1=>
   intro e2 s2 h2
   obtain ⟨e1,s1,a,⟨r,rfl,b⟩ | ⟨_,_,_,_,_,_,_,rfl,rfl,rfl⟩⟩:=zi h2
   ·obtain ⟨x,_⟩:=ih1 a; cases x
   ·obtain ⟨x,rfl⟩:=ih1 a; cases x; exact ⟨rfl,rfl⟩
 | yield=>intro e2 s2 h2; obtain ⟨rfl,rfl⟩:=zi h2; exact ⟨rfl,rfl⟩
 | resumeFresh g _ _ _ ih1 ih2=>
   intro e2 s2 h2
   obtain ⟨st,g2,o⟩:=zi h2
   cases g.symm.trans g2
   rcases o with ⟨c,z,⟨_,e1,s1,a,b⟩ | ⟨v,z2,n,_⟩ | ⟨x,z2,_⟩⟩ | ⟨_,_,_,_,_,_,z,_⟩ | ⟨z,_⟩ | ⟨z,_⟩
   ·cases z; obtain ⟨rfl,rfl⟩:=ih1 a; exact ih2 b
   ·cases z2; exact (n rfl).elim
   ·cases z2
   ·cases z
   ·cases z
   ·cases z
 | resumeSuspended g _ _ _ ih1 ih2=>
   intro e2 s2 h2
   obtain ⟨st,g2,o⟩:=zi h2
   cases g.symm.trans g2
   rcases o with ⟨c,z,_⟩ | ⟨_,_,_,_,_,_,z,e1,s1,a,b⟩ | ⟨z,_⟩ | ⟨z,_⟩
   ·cases z
   ·cases z; obtain ⟨rfl,rfl⟩:=ih1 a; exact ih2 b
   ·cases z
   ·cases z
 | resumeJustStarted g n _ ih=>
   intro e2 s2 h2
   obtain ⟨st,g2,o⟩:=zi h2
   cases g.symm.trans g2
   rcases o with ⟨c,z,⟨z2,_⟩ | ⟨v,z2,_,b⟩ | ⟨x,z2,_⟩⟩ | ⟨_,_,_,_,_,_,z,_⟩ | ⟨z,_⟩ | ⟨z,_⟩
   ·cases z2; exact (n rfl).elim
   ·exact ih b
   ·cases z2
   ·cases z
   ·cases z
   ·cases z
 | resumeThrowFresh g _ ih=>
   intro e2 s2 h2
   obtain ⟨st,g2,o⟩:=zi h2
   cases g.symm.trans g2
   rcases o with ⟨c,z,⟨z2,_⟩ | ⟨v,z2,_,_⟩ | ⟨x,z2,b⟩⟩ | ⟨_,_,_,_,_,_,z,_⟩ | ⟨z,_⟩ | ⟨z,_⟩
   ·cases z2
   ·cases z2
   ·cases z2; exact ih b
   ·cases z
   ·cases z
   ·cases z
 | resumeRunning g _ ih=>
   intro e2 s2 h2
   obtain ⟨st,g2,o⟩:=zi h2
   cases g.symm.trans g2
   rcases o with ⟨c,z,_⟩ | ⟨_,_,_,_,_,_,z,_⟩ | ⟨_,b⟩ | ⟨z,_⟩
   ·cases z
   ·cases z
   ·exact ih b
   ·cases z
 | resumeFinished g _ ih=>
   intro e2 s2 h2
   obtain ⟨st,g2,o⟩:=zi h2
   cases g.symm.trans g2
   rcases o with ⟨c,z,_⟩ | ⟨_,_,_,_,_,_,z,_⟩ | ⟨z,_⟩ | ⟨_,b⟩
   ·cases z
   ·cases z
   ·cases z
   ·exact ih b
 | segRet _ _ ih1 ih2=>
   intro e2 s2 h2
   obtain ⟨e1,s1,a,o⟩:=zi h2
   obtain ⟨rfl,rfl⟩:=ih1 a
   rcases o with ⟨_,_,_,_,_,_,_,_,z,z2,b⟩ | ⟨_,_,_,_,_,_,z,_,_⟩ | ⟨_,_,_,_,_,_,_,z,_⟩
   ·cases z; cases z2; exact ih2 b
   ·cases z
   ·cases z
 | segGen _ _ ih1 ih2=>
   intro e2 s2 h2
   obtain ⟨e1,s1,a,o⟩:=zi h2
   obtain ⟨rfl,rfl⟩:=ih1 a
   rcases o with ⟨_,_,_,_,_,_,_,_,z,_,_⟩ | ⟨_,_,_,_,_,_,z,z2,b⟩ | ⟨_,_,_,_,_,_,_,z,_⟩
   ·cases z
   ·cases z; cases z2; exact ih2 b
   ·cases z
 | segSuspOut g _ ih1=>
   intro e2 s2 h2
   obtain ⟨e1,s1,a,o⟩:=zi h2
   obtain ⟨rfl,rfl⟩:=ih1 a
   rcases o with ⟨_,_,_,_,_,_,_,_,_,z,_⟩ | ⟨_,_,_,_,_,_,_,z,_⟩ | ⟨_,_,_,_,_,_,_,z,⟨_,z2,z3⟩ | ⟨_,_,_,_,_,_,g2,_⟩⟩
   ·cases z
   ·cases z
   ·cases z; cases z2; cases z3; exact ⟨rfl,rfl⟩
   ·cases g.symm.trans g2
 | segSuspGen g _ _ _ ih1 ih2=>
   intro e2 s2 h2
   obtain ⟨e1,s1,a,o⟩:=zi h2
   obtain ⟨rfl,rfl⟩:=ih1 a
   rcases o with ⟨_,_,_,_,_,_,_,_,_,z,_⟩ | ⟨_,_,_,_,_,_,_,z,_⟩ | ⟨_,_,_,_,_,_,_,z,⟨g2,_,_⟩ | ⟨_,_,_,_,_,_,g2,b⟩⟩
   ·cases z
   ·cases z
   ·cases g.symm.trans g2
   ·cases z; cases g.symm.trans g2; exact ih2 b
theorem zhf {M:Model} {Γ:Ctx} {p:Pos} {g:Nat} {r:Resume} {s:Shared} {a b:GenResult} {s1 s2:Shared} (h1:Wakes M Γ p g r s a s1) (h2:Wakes M Γ p g r s b s2):a=b /\ s1=s2:=by
 unfold Wakes at h1 h2
 cases hg:s.gens[g]? with
 | none=>rw [hg] at h1; exact h1.elim
 | some gs=>
   rw [hg] at h1 h2
   cases gs with
   | fresh c=>
     cases r with
     | send v=>
       cases v with
       | none=>
         obtain ⟨e1,t1,x1,_,rfl,rfl⟩:=h1
         obtain ⟨e2,t2,x2,_,rfl,rfl⟩:=h2
         obtain ⟨rfl,rfl⟩:=zdx x1 x2
         exact ⟨rfl,rfl⟩
       | _=>exact ⟨h1.1.trans h2.1.symm,h1.2.trans h2.2.symm⟩
     | throw x=>exact ⟨h1.1.trans h2.1.symm,h1.2.trans h2.2.symm⟩
   | suspended k0 l0 c0 p0 fs cl=>
     obtain ⟨e1,t1,x1,_,rfl,rfl⟩:=h1
     obtain ⟨e2,t2,x2,_,rfl,rfl⟩:=h2
     obtain ⟨rfl,rfl⟩:=zdx x1 x2
     exact ⟨rfl,rfl⟩
   | running=>exact ⟨h1.1.trans h2.1.symm,h1.2.trans h2.2.symm⟩
   | finished=>exact ⟨h1.1.trans h2.1.symm,h1.2.trans h2.2.symm⟩
theorem zlP {α:Type} (M:Model) (Γ:Ctx) (t:Sem α):∀ {Q1 Q2:α->Pos->Shared->Prop} {E1 E2:Value->Pos->Shared->Prop} {p:Pos} {s:Shared},Sem.wp M Γ t Q1 E1 p s->Sem.wp M Γ t Q2 E2 p s->
  Sem.wp M Γ t (fun a p s=>Q1 a p s /\ Q2 a p s) (fun e p s=>E1 e p s /\ E2 e p s) p s:=by
 induction t with
 | pure a=>intro _ _ _ _ _ _ h1 h2; rw [Sem.wp] at h1 h2 ⊢; exact ⟨h1,h2⟩
 | raise e=>intro _ _ _ _ _ _ h1 h2; rw [Sem.wp] at h1 h2 ⊢; exact ⟨h1,h2⟩
 | load a part k ih=>
   intro _ _ _ _ _ _ h1 h2
   rw [Sem.wp] at h1 h2 ⊢
   obtain ⟨o,g,h1⟩:=h1
   obtain ⟨o2,g2,h2⟩:=h2
   rw [g] at g2; cases g2
   exact ⟨o,g,ih _ h1 h2⟩
 | update a part f k ih=>intro _ _ _ _ _ _ h1 h2; rw [Sem.wp] at h1 h2 ⊢; exact ⟨h1.1,ih _ h1.2 h2.2⟩
 | choose src n k ih=>intro _ _ _ _ _ _ h1 h2; rw [Sem.wp] at h1 h2 ⊢; exact ⟨h1.1,ih _ h1.2 h2.2⟩
 | call c h g l k ih=>
   intro _ _ _ _ _ _ h1 h2
   rw [Sem.wp] at h1 h2 ⊢
   obtain ⟨r,s1,x1,h1⟩:=h1
   obtain ⟨r2,s2,x2,h2⟩:=h2
   obtain ⟨e,rfl⟩:=zdx x1 x2
   cases e
   exact ⟨r,s1,x1,ih _ h1 h2⟩
 | genState g k ih=>
   intro _ _ _ _ _ _ h1 h2
   rw [Sem.wp] at h1 h2 ⊢
   obtain ⟨o,g,h1⟩:=h1
   obtain ⟨o2,g2,h2⟩:=h2
   rw [g] at g2; cases g2
   exact ⟨o,g,ih _ h1 h2⟩
 | resume g r l k ih=>
   intro _ _ _ _ _ _ h1 h2
   rw [Sem.wp] at h1 h2 ⊢
   obtain ⟨r,s1,x1,h1⟩:=h1
   obtain ⟨r2,s2,x2,h2⟩:=h2
   obtain ⟨rfl,rfl⟩:=zhf x1 x2
   exact ⟨r,s1,x1,ih _ h1 h2⟩
 | unsupported | finish | yield | fork | await | register=>intro _ _ _ _ _ _ h1 _; rw [Sem.wp] at h1; exact h1.elim
 | rule _ k ih | «at» _ k ih | alloc _ k ih | loadIfAlive _ k ih | point _ k ih | fresh k ih | ask k ih | os _ _ k ih | handled _ k ih | newGen _ k ih | stack k ih | thread k ih=>intro _ _ _ _ _ _ h1 h2; rw [Sem.wp] at h1 h2 ⊢; exact ih _ h1 h2
theorem zbT {α:Type} {M:Model} {A:Around} {t:Sem α} {Q1 Q2:α->Shared->Prop} {E1 E2:Value->Shared->Prop} {s:Shared} (h1:wpAny M A t Q1 E1 s) (h2:wpAny M A t Q2 E2 s):
  wpAny M A t (fun a s=>Q1 a s /\ Q2 a s) (fun e s=>E1 e s /\ E2 e s) s:=fun Γ p hΓ=>zlP M Γ t (h1 Γ p hΓ) (h2 Γ p hΓ)
end L2
namespace L2
open PySem PySem.Spec PySem.W PyProof.Rows
section
variable {M:Model} {A:Around} {E:Value->Shared->Prop} {s:Shared} {base:Heap} {env:Env} {outer:List Env} {L e:Addr} {cls a0:Value}
theorem NoCtx.upd {h:Heap} {a e:Addr} {i:Nat} {v:Value} (x:NoCtx h e) (hi:a≠e \/ i≠2):NoCtx (h.update a (Obj.mapFields (·.setIfInBounds i v))) e:=by
 obtain ⟨o,fs,ho,hd,h2⟩:=x
 by_cases z:a=e
 ·subst z
  have hi2:i≠2:=hi.resolve_left fun q=>q rfl
  refine ⟨_,_,Heap.get?_update_self _ ho (Obj.isFreed_of_fields (Obj.data_mapFields hd _)),Obj.data_mapFields hd _,?_⟩
  rw [Array.getElem?_setIfInBounds_ne hi2]; exact h2
 ·exact ⟨o,fs,(Heap.get?_update_other _ _ z).trans ho,hd,h2⟩
theorem NoCtx.push {h:Heap} {e:Addr} (x:NoCtx h e) (o:Obj):NoCtx (h.push o) e:=let ⟨p,fs,ho,r⟩:=x; ⟨p,fs,Heap.get?_push_of_some _ ho,r⟩
theorem zd2 {oe:Obj} {vs:Array Value} {head:Value} {b:Bool} {Q:Unit->Shared->Prop} (hfr:A.frames=some (env :: outer)) (hl:s.heap.FunFrames base (env :: outer)) (hf:env.frame=some L)
  (he:s.heap.get? e=some oe) (hd:oe.data=.fields vs) (hsz:1 < vs.size) (h2:vs[2]?=some Value.none)
  (h:∀ h' T oT ts,NoCtx h' e->(∃ o ws,h'.get? e=some o /\ o.data=.fields ws /\ ws[1]?=some (.ref T))->h'.get? T=some oT->oT.data=.fields ts->3 < ts.size->T≠e->Q () { s with heap:=h' }):
  wpAny M A (do let a <- frameOf env; let pl <- entryPlaceOf L b; let c <- EntryCells.newEntry head a .none (rawInt L) .none pl; setField (.ref e) 1 c) Q E s:=by
 have ne:e∉(env :: outer).filterMap (·.frame):=fun hm=>by
  obtain ⟨_,o,ho,hnf⟩:=hl.mem hm
  rw [he] at ho; cases ho; exact hnf vs hd
 refine wpAny_bind (wpAny_frameOf_fun hfr hl hf fun h1 hs=>?_)
 refine wpAny_bind (wpAny_entryPlaceOf fun pl hpl=>?_)
 unfold EntryCells.newEntry newFields
 refine wpAny_bind (wpAny_newObj_type ?_ (hpl.sizeOk5 _ _ _ _ _))
 have e1:h1.get? e=some oe:=(hs.2.1 e ne).trans he
 have lt:=Heap.lt_size e1
 have hT:=(Heap.get?_update_other (h1.push { cls:=.type "traceback",dict:=none,data:=.fields ([head,.ref L,.none,rawInt L,.none] ++ (if pl.isEmpty then List.replicate 6 Value.none else pl)).toArray }) (Obj.mapFields (·.setIfInBounds 1 (Value.ref h1.objs.size))) (Nat.ne_of_lt lt)).trans (Heap.get?_push_size h1 rfl)
 refine wpAny_setField (Heap.get?_push_of_some _ e1) hd hsz (h _ h1.objs.size _ _ ?_ ?_ hT rfl ?_ (Nat.ne_of_gt lt))
 ·exact NoCtx.upd (NoCtx.push ⟨oe,vs,e1,hd,h2⟩ _) (.inr (by decide))
 ·exact ⟨_,_,Heap.get?_update_self _ (Heap.get?_push_of_some _ e1) (Obj.isFreed_of_fields (Obj.data_mapFields hd _)),Obj.data_mapFields hd _,by simp [hsz]⟩
 ·simp only [List.size_toArray,List.length_append,List.length_cons,List.length_nil]; omega
theorem zhj {Q:Unit->Shared->Prop} {oe oT:Obj} {vs ts:Array Value} {T:Addr} {fl:Option Addr} (x:NoCtx s.heap e) (he:s.heap.get? e=some oe) (hd:oe.data=.fields vs) (h1:vs[1]?=some (.ref T)) (hT:s.heap.get? T=some oT) (hdT:oT.data=.fields ts) (hz:3 < ts.size)
  (h:∀ h',NoCtx h' e->Q () { s with heap:=h' }):wpAny M A (setFlight (.ref e) fl) Q E s:=by
 unfold setFlight
 refine wpAny_bind (wpAny_field he hd h1 ?_)
 rw [if_pos (show (Value.ref T != Value.none)=true from by simp)]
 exact wpAny_setField hT hdT hz (h _ (x.upd (.inr (by decide))))
theorem ziM {Q:Unit->Shared->Prop} (hfr:A.frames=some (env :: outer)) (hf:env.frame=some L) (hfl:Heap.FlyingW base (env :: outer) e cls a0 s.heap) (x:NoCtx s.heap e)
  (h:∀ h' T oT ts,NoCtx h' e->(∃ o ws,h'.get? e=some o /\ o.data=.fields ws /\ ws[1]?=some (.ref T))->h'.get? T=some oT->oT.data=.fields ts->3 < ts.size->T≠e->Q () { s with heap:=h' }):wpAny M A (noteFrame (.ref e) env) Q E s:=by
 obtain ⟨f1,f2,hl,oe,vs,T,oT,ts,he,_,hd,h1,hnT,hTe,hT,hdT,h3⟩:=hfl
 obtain ⟨o',fs,ho',hd',h2⟩:=id x
 rw [he] at ho'; cases ho'
 rw [hd] at hd'; cases hd'
 unfold noteFrame
 simp only [hf]
 refine wpAny_bind (wpAny_field he hd h1 ?_)
 rw [if_pos (show (Value.ref T != Value.none)=true from by simp)]
 refine wpAny_bind (wpAny_field hT hdT h3 ?_)
 rw [if_neg (show ¬ ((Value.none == rawInt L)=true) from by simp [rawInt])]
 refine wpAny_bind (wpAny_setField hT hdT (Array.getElem?_eq_some_iff.mp h3).1 ?_)
 have ot:∀ b,b≠T->(s.heap.update T (Obj.mapFields (·.setIfInBounds 3 Value.none))).get? b=s.heap.get? b:=fun b hb=>Heap.get?_update_other _ _ (Ne.symm hb)
 exact zd2 hfr (hl.of_keeps fun b o hb hnf=>⟨o,(ot b fun q=>by rw [q,hT] at hb; cases hb; exact hnf ts hdT).trans hb,rfl⟩) hf ((ot e (Ne.symm hTe)).trans he) hd (Array.getElem?_eq_some_iff.mp h1).1 h2 h
theorem zjG {h0:Heap} {args:List Value} {Q:Unit->Shared->Prop} (hfr:A.frames=some (env :: outer)) (hf:env.frame=some L) (hl:h0.FunFrames base (env :: outer)) (hx:Heap.MadeExcOf h0 s.heap e cls args) (h:∀ h',NoCtx h' e->Q () { s with heap:=h' }):wpAny M A (leaving env (.ref e)) Q E s:=by
 obtain ⟨t,he,_,_⟩:=hx.there
 unfold leaving noteFrame
 simp only [hf]
 refine wpAny_bind (wpAny_bind (wpAny_field he rfl (x:=Value.none) rfl ?_))
 rw [if_neg (by decide)]
 refine zd2 hfr (hl.of_keeps fun b o hb _=>⟨o,hx.keeps b o hb,rfl⟩) hf he rfl (Nat.lt_of_lt_of_le (show 1 < 6 by decide) (Nat.le_refl _)) rfl fun h' T oT ts x' ⟨o,ws,k1,k2,k3⟩ k4 k5 k6 _=>?_
 exact zhj (s:={ s with heap:=h' }) x' k1 k2 k3 k4 k5 k6 fun h2 x2=>h h2 x2
theorem zgN {Q:Unit->Shared->Prop} (hfr:A.frames=some (env :: outer)) (hf:env.frame=some L) (hfl:Heap.FlyingW base (env :: outer) e cls a0 s.heap) (x:NoCtx s.heap e)
  (hQ:∀ h',Heap.HeldW base (env :: outer) e cls a0 L h'->NoCtx h' e->s.heap.UpToSlots h'->Q () { s with heap:=h' }):wpAny M A (noteFrame (.ref e) env) Q E s:=
 wpAny_mono (zbT (wpAny_looks_onW (E:=fun _ _=>False) (Q:=fun _ s2=>∃ h2,s2={ s with heap:=h2 } /\ Heap.HeldW base (env :: outer) e cls a0 L h2 /\ s.heap.UpToSlots h2) hfr hf hfl fun h2 k1 k2=>⟨h2,rfl,k1,k2⟩)
  (ziM (E:=fun _ _=>False) (Q:=fun _ s2=>NoCtx s2.heap e) hfr hf hfl x fun _ _ _ _ k _ _ _ _ _=>k)) (fun _ s2 ⟨⟨h2,e2,k1,k2⟩,nc⟩=>by subst e2; exact hQ h2 k1 nc k2) fun _ _ z=>z.1.elim
theorem zjY {fl:Value} {l:List Env} {Q:Unit->Shared->Prop} (ht:s.heap.TracedAtW base e cls a0 fl) (x:NoCtx s.heap e) (h:∀ h',NoCtx h' e->Q () { s with heap:=h' }):wpAny M A (setFlight (.ref e) none) Q E s:=by
 obtain ⟨oe,vs,T,oT,ts,he,_,hd,h1,_,_,hT,hdT,h3⟩:=ht
 exact zhj x he hd h1 hT hdT (Array.getElem?_eq_some_iff.mp h3).1 h
theorem landsX {l:List Env} {Q:Unit->Shared->Prop} (hh:Heap.HeldW base l e cls a0 L s.heap) (x:NoCtx s.heap e) (hQ:∀ h',Heap.FlyingW base l e cls a0 h'->NoCtx h' e->s.heap.UpToSlots h'->Q () { s with heap:=h' }):wpAny M A (setFlight (.ref e) none) Q E s:=
 wpAny_mono (zbT (wpAny_landsW (E:=fun _ _=>False) (Q:=fun _ s2=>∃ h2,s2={ s with heap:=h2 } /\ Heap.FlyingW base l e cls a0 h2 /\ s.heap.UpToSlots h2) hh fun h2 k1 k2=>⟨h2,rfl,k1,k2⟩)
  (zjY (E:=fun _ _=>False) (l:=l) (Q:=fun _ s2=>NoCtx s2.heap e) hh.2.2.2 x fun _ k=>k)) (fun _ s2 ⟨⟨h2,e2,k1,k2⟩,nc⟩=>by subst e2; exact hQ h2 k1 nc k2) fun _ _ z=>z.1.elim
theorem zd7 {l:List Env} {Q:Unit->Shared->Prop} (hh:Heap.FlyingW base l e cls a0 s.heap) (x:NoCtx s.heap e) (hQ:∀ h',Heap.FlyingW base l e cls a0 h'->NoCtx h' e->s.heap.UpToSlots h'->Q () { s with heap:=h' }):wpAny M A (setFlight (.ref e) none) Q E s:=
 wpAny_mono (zbT (lands_againW (E:=fun _ _=>False) (Q:=fun _ s2=>∃ h2,s2={ s with heap:=h2 } /\ Heap.FlyingW base l e cls a0 h2 /\ s.heap.UpToSlots h2) hh fun h2 k1 k2=>⟨h2,rfl,k1,k2⟩)
  (zjY (E:=fun _ _=>False) (l:=l) (Q:=fun _ s2=>NoCtx s2.heap e) hh.2.2.2.at x fun _ k=>k)) (fun _ s2 ⟨⟨h2,e2,k1,k2⟩,nc⟩=>by subst e2; exact hQ h2 k1 nc k2) fun _ _ z=>z.1.elim
end
end L2
namespace L2
open PySem PySem.Spec PySem.W PyProof.Rows
theorem ObjOk.there {P:Program} {w:World} {H:Hp} {h:Heap} {a:Addr} {o:HO} (x:ObjOk P w H h a o):∃ ob,h.get? a=some ob:=by
 induction o with
 | lst xs=>obtain ⟨_,_,_,_,e⟩:=x; exact ⟨_,e⟩
 | tup xs=>obtain ⟨_,_,_,o,e,_⟩:=x; exact ⟨_,e⟩
 | dK kvs=>obtain ⟨_,_,_,_,o,es,ep,e,_⟩:=x; exact ⟨_,e⟩
 | dT kvs=>obtain ⟨_,_,_,_,o,es,ep,e,_⟩:=x; exact ⟨_,e⟩
 | set S n=>obtain ⟨_,_,_,_,e,_⟩:=x; exact ⟨_,e⟩
 | ins C dx fs=>obtain ⟨_,_,_,e,_⟩:=x; exact ⟨_,e⟩
 | own y=>exact x
 | xd fs=>obtain ⟨_,⟨o,es,ep,e,_⟩,_⟩:=x; exact ⟨_,e⟩
 | met f y=>exact ⟨_,x⟩
 | rng lo hi=>obtain ⟨_,_,_,e⟩:=x; exact ⟨_,e⟩
 | frz ob u ih=>exact ⟨_,x.1⟩
 | tbl ps=>exact ⟨_,x⟩
 | ext φ=>exact x.2.1
noncomputable def Cov (g:Heap) (l:List Env) (H:Hp) (B:Heap):Prop:=∀ b,b∉frs l->(H b≠none \/ ∃ o0,g.get? b=some o0)->∃ o,B.get? b=some o
theorem Cov.at {g h B:Heap} {l:List Env} {H:Hp} (c:Cov g l H B) (st:B.StaysIn h) {b:Addr} {o:Obj} (q:h.get? b=some o) (n:b∉frs l) (i:H b≠none \/ ∃ o0,g.get? b=some o0):B.get? b=some o:=by
 obtain ⟨o',e⟩:=c b n i
 have:=st b o' e
 rw [q] at this
 cases this
 exact e
theorem zjT {l:List Env} {H H1:Hp} {g h h' B base:Heap} (u:Un (frs l) [] H H1 g h) (c:Cov g l H1 B) (st:B.StaysIn h) (st':B.StaysIn h') (up:h.UpToSlots h') (fr:h.FunFrames base l):Un (frs l) [] H H1 g h' where
 keep:=fun b o q n hb hx=>st' b o (c.at st (u.keep b o q n hb hx) hb (.inr ⟨_,q⟩))
 slot:=fun b o q n hb hx=>by
  obtain ⟨sl,e⟩:=u.slot b o q n hb hx
  obtain ⟨_,o1,ho1,hnf⟩:=fr.mem hb
  rw [e] at ho1
  cases ho1
  obtain ⟨sl',e'⟩:=up b _ e hnf
  exact ⟨sl',e'⟩
 free:=u.free
 there:=fun b o q hx=>by
  by_cases hb:b∈frs l
  ·obtain ⟨_,o1,ho1,hnf⟩:=fr.mem hb
   obtain ⟨sl',e'⟩:=up b _ ho1 hnf
   exact ⟨_,e'⟩
  ·obtain ⟨o',e⟩:=u.there b o q hx
   exact ⟨o',st' b o' (c.at st e hb (.inr ⟨_,q⟩))⟩
 tups:=u.tups
 frzs:=u.frzs
 tbls:=u.tbls
theorem zgQ {P:Program} {w:World} {l:List Env} {H:Hp} {g h h' B:Heap} (x:HOk P w H h) (c:Cov g l H B) (st:B.StaysIn h) (st':B.StaysIn h') (nf:∀ b∈frs l,H b=none):HOk P w H h':=fun a o e=>by
 refine (x a o e).stay (fun b u hb q=>?_) (fun _ q=>q) fun _ _ q=>q
 have ht:H b≠none:=by
  rcases hb with rfl | hb
  ·rw [e]; exact fun z=>nomatch z
  ·rw [hb]; exact fun z=>nomatch z
 exact st' b u (c.at st q (fun z=>ht (nf b z)) (.inl ht))
noncomputable def CXr (P:Program) (w:World):CXT:=fun outer H s E e s'=>∃ (a t C:Addr) (B:Heap) (H1:Hp),e=.ref a /\ s'.os=s.os /\ AllBare s'.gens /\ Un (frs outer) [] H H1 s.heap s'.heap /\ HOk P w H1 s'.heap /\
 s.heap.get? a=none /\ H1 a=none /\ Cov s.heap outer H1 B /\ Heap.FlyingW B outer a (.ref C) (.ref t) s'.heap /\ NoCtx s'.heap a /\ E (.ref C) none H1
section
variable {P:Program} {w:World} {K:PySem.W.Frag} {mg:Str->Option Value} {base:Heap} {N:List Str} {qual:Str} {scope:Scope} {f:Addr} {cd:Value} {A:Around} {outer:List Env} {s:Shared} {H:Hp} {E:XK}
theorem Inv.tracked {X:Cx} {pins:List (Addr×Obj)} {σ:St} {H1:Hp} {s1:Shared} (I:Inv X pins σ H1 s1) {b:Addr} (n:H1 b≠none):∃ o,s1.heap.get? b=some o:=by
 cases q:H1 b with
 | none=>exact absurd q n
 | some o=>exact (I.hok b o q).there
theorem zkK {pins:List (Addr×Obj)} {σ:St} {H1:Hp} {s1:Shared} {h':Heap} {a C:Addr} {vs:List Value} (I:Inv (cxOf (CXr P w) P w K mg base N qual scope f cd A outer s H E) pins σ H1 s1)
  (hx:Heap.MadeExcOf s1.heap h' a (.ref C) vs) (hE:E (.ref C) none H1):(cxOf (CXr P w) P w K mg base N qual scope f cd A outer s H E).xe (.ref a) { s1 with heap:=h' }:=by
 have st:(hideAll s1.heap (frs (envOfC qual scope s.heap.objs.size f cd :: outer))).StaysIn s1.heap:=fun b o q=>of_hideAll _ q
 have cov0:∀ b,b∉frs outer->(H1 b≠none \/ ∃ o0,s.heap.get? b=some o0)->∃ o,(hideAll s1.heap (frs (envOfC qual scope s.heap.objs.size f cd :: outer))).get? b=some o:=fun b nb i=>by
  have hb:b∉frs (envOfC qual scope s.heap.objs.size f cd :: outer):=fun z=>by
   rcases List.mem_cons.mp (I.stkSub b z) with e | z
   ·rcases i with i | ⟨o0,i⟩
    ·exact i (by rw [e]; exact I.free)
    ·exact absurd (Nat.lt_of_lt_of_le (Heap.lt_size i) (by rw [e]; exact I.ok.above)) (Nat.lt_irrefl _)
   ·exact nb z
  have ex:∃ o,s1.heap.get? b=some o:=by
   rcases i with i | ⟨o0,i⟩
   ·exact I.tracked i
   ·exact I.base.there b o0 i (fun z=>nomatch z)
  obtain ⟨o,e⟩:=ex
  exact ⟨o,hideAll_get _ e hb⟩
 have fh:=funFrames_hide I.stack fun env he b hb=>List.mem_filterMap.mpr ⟨env,he,hb⟩
 refine wpAny_mono (zbT (wpAny_leaves_madeW (E:=fun _ _=>False) (Q:=fun _ s2=>∃ h2 t,s2={ s1 with heap:=h2 } /\ Heap.FlyingW (hideAll s1.heap (frs (envOfC qual scope s.heap.objs.size f cd :: outer))) outer a (.ref C) (.ref t) h2 /\ Heap.UpToSlots h' h2)
  (h:=s1.heap) I.ok.frames rfl st fh hx fun h2 t fly _ _ up=>⟨h2,t,rfl,fly,up⟩) (zjG (E:=fun _ _=>False) (Q:=fun _ s2=>NoCtx s2.heap a) I.ok.frames rfl fh hx fun _ x=>x)) (fun _ s2 ⟨⟨h2,t,e2,fly,up⟩,nc⟩=>?_) fun _ _ z=>z.1.elim
 subst e2
 have up2:s1.heap.UpToSlots h2:=(Heap.UpToSlots.of_keeps hx.keeps).trans up
 refine ⟨a,t,C,_,H1,rfl,I.os,I.bare,zjT I.base cov0 st fly.1 up2 I.funs,zgQ I.hok cov0 st fly.1 (fun b hb=>?_),?_,?_,cov0,fly,nc,hE⟩
 ·obtain ⟨_,o,ho,_⟩:=I.ok.funs.mem hb
  exact I.base.free b o ho (I.ok.frf b hb) fun z=>nomatch z
 ·cases q:s.heap.get? a with
  | none=>rfl
  | some o=>
    obtain ⟨o',e⟩:=I.base.there a o q (fun z=>nomatch z)
    rw [hx.new] at e; cases e
 ·cases q:H1 a with
  | none=>rfl
  | some o=>
    obtain ⟨o',e⟩:=I.tracked (b:=a) (by rw [q]; exact fun z=>nomatch z)
    rw [hx.new] at e; cases e
structure ExC (K:PySem.W.Frag) (mg:Str->Option Value) (x:Str) (C:Addr) (bm tl:List Value) (newId:String):Prop where
 bound:mg x=some (.ref C)
 obj:∃ (n:Addr) (nm q:Str) (bs:List Value) (hdct:Bool) (sn:List Str) (sub:List Value) (ab:Bool) (col:Option Bool) (dd:Option Addr) (k0 k1 k2 k3 k5:Option Value) (mN:Str->Option Value),
  mN "__init__"=none /\ ∀ h:Heap,K.In h->h.get? C=some (excClassObj nm q C n bs tl hdct sn sub ab col dd k0 k1 k2 k3 k5 newId) /\ h.Ns n mN /\ OwnTail h bm tl
theorem zi0 {x:Str} {C:Addr} {bm tl bmN:List Value} {newId nid initId inN B Bn:String} {e₀:Expr} {rest:List Expr} {np cpos pos:Pos} {t:TA} (hC:ExC K mg x C bm tl newId) (Fn:ExcBaseFacts Bn newId inN bmN) (hBn:bm.contains (.type Bn)=true)
  (FB:ExcBaseFacts B nid initId bm) (ha:PA (cxOf (CXr P w) P w K mg base N qual scope f cd A outer s H E) (e₀ :: rest) t) (hg:Gl (cxOf (CXr P w) P w K mg base N qual scope f cd A outer s H E) x:=by rfl)
  (he:starEach (e₀ :: rest) (envOfC qual scope s.heap.objs.size f cd)=(false,eval e₀ (envOfC qual scope s.heap.objs.size f cd)) :: starEach rest (envOfC qual scope s.heap.objs.size f cd):=by rfl)
  (hplain:(backTo cpos (starEach rest (envOfC qual scope s.heap.objs.size f cd))).any (·.1)=false:=by rfl) (hd:(x == ("__debug__":Str))=false:=by decide):
  PS (cxOf (CXr P w) P w K mg base N qual scope f cd A outer s H E) (.Raise (some (.Call (.Name x np) (e₀ :: rest) [] cpos)) none pos) (fun _ σ H0=>t σ H0 fun vs H1=>vs.length<=sizeLine /\ E (.ref C) none H1):=by
 intro pins s1 σ H1 D I h
 obtain ⟨n,nm,q,bs,hdct,sn,sub,ab,col,dd,k0,k1,k2,k3,k5,mN,hni,all⟩:=hC.obj
 obtain ⟨_,_,T⟩:=all _ I.kIn
 refine wpAny_Raise_call_subU (C:=C) (nm:=nm) (q:=q) (N:=n) (bs:=bs) (bm:=tl) (hdct:=hdct) (sn:=sn) (sub:=sub) (ab:=ab) (col:=col) (dd:=dd) (k0:=k0) (k1:=k1) (k2:=k2) (k3:=k3) (k5:=k5)
  Fn hBn FB (mN:=mN) (T.hasType FB.hasBase) (I.ok.hd rfl) ?_ hni (zcG I hg hC.bound ⟨rfl,?_⟩ hd)
 ·show (backTo cpos (starEach (e₀ :: rest) (envOfC qual scope s.heap.objs.size f cd))).any (·.1)=false
  rw [he]; show (false || (backTo cpos (starEach rest (envOfC qual scope s.heap.objs.size f cd))).any (·.1))=false; rw [hplain]; rfl
 ·show wpAny _ _ (evalArgs (.ref C) true (backTo cpos (starEach (e₀ :: rest) (envOfC qual scope s.heap.objs.size f cd))) []) _ _ s1
  have hp:=ha cpos pins s1 σ H1 _ I h
  have hp':wpAny (model P w) (A.deeper (envOfC qual scope s.heap.objs.size f cd)) (spliced (backTo cpos (starEach (e₀ :: rest) (envOfC qual scope s.heap.objs.size f cd)))) _ _ s1:=hp
  rw [he] at hp' ⊢
  refine Calls.evalArgs_plain (wpAny_mono hp' (fun us s2 ⟨vs,H2,I2,r2,hz,hE⟩=>⟨rfl,by show us.length<=_; rw [<- r2.length]; exact hz,(all _ I2.kIn).1,(all _ I2.kIn).2.1,(all _ I2.kIn).2.2,fun h' e hm=>zkK I2 hm hE⟩) fun _ _ y=>y)
end
noncomputable abbrev Cx.inX (X:Cx) (a:Addr):Cx:={ X with A:=X.A.mark (some (.ref a)),calm:=false,xe:=fun _ _=>False }
theorem Cx.Ok.inX {X:Cx} (ok:X.Ok) (a:Addr):(X.inX a).Ok:=
 ⟨ok.mod,ok.kind,ok.glob,ok.blt,ok.above,ok.inj,ok.has,ok.cab,(fun z=>nomatch z),ok.frames,ok.stk,ok.exf,ok.bs,ok.bsz,ok.noex,ok.exfs,ok.funs,ok.frf⟩
theorem Inv.inX {X:Cx} {pins:List (Addr×Obj)} {σ:St} {H:Hp} {s:Shared} (I:Inv X pins σ H s) (a:Addr):Inv (X.inX a) pins σ H s:=⟨I.ok.inX a,I.os,I.bare,I.base,I.loc,I.cell,I.free,I.freeC,I.pin,I.hok,I.len⟩
theorem Inv.outX {X:Cx} {pins:List (Addr×Obj)} {σ:St} {H:Hp} {s:Shared} {a:Addr} (I:Inv (X.inX a) pins σ H s) (ok:X.Ok):Inv X pins σ H s:=⟨ok,I.os,I.bare,I.base,I.loc,I.cell,I.free,I.freeC,I.pin,I.hok,I.len⟩
theorem Inv.trackX {X:Cx} {pins:List (Addr×Obj)} {σ σ':St} {H0 H1:Hp} {s0 s1:Shared} {a:Addr} {o:HO} (I:Inv X pins σ H1 s1) (I0:Inv X pins σ' H0 s0) (na:s0.heap.get? a=none) (ta:H1 a=none) (new:ObjOk X.prog X.w (upd H1 a o) s1.heap a o):
  Inv X pins σ (upd H1 a o) s1:=by
 have ne:∀ b ob,s0.heap.get? b=some ob->b≠a:=fun b ob q e=>by rw [e,na] at q; cases q
 have nt:∀ b u,H1 b=some u->b≠a:=fun b u q e=>by rw [e,ta] at q; cases q
 have nL:X.env.locals≠a:=by
  obtain ⟨m,⟨ol,_,_,e,_⟩,_⟩:=I0.loc
  exact ne _ _ e
 refine ⟨I.ok,I.os,I.bare,⟨I.base.keep,I.base.slot,fun b ob q n hx=>?_,I.base.there,fun b xs q=>?_,fun b ob u q=>?_,fun b ps q=>?_⟩,I.loc,I.cell,?_,fun x c e=>?_,fun p hp=>?_,fun b u q=>?_,I.len⟩
 ·obtain ⟨o',e⟩:=I0.base.there b ob q hx
  rw [zn (ne b o' e)]; exact I.base.free b ob q n hx
 ·have:=I.base.tups b xs q
  rw [zn (nt _ _ this)]; exact this
 ·have:=I.base.frzs b ob u q
  rw [zn (nt _ _ this)]; exact this
 ·obtain ⟨more,this⟩:=I.base.tbls b ps q
  exact ⟨more,by rw [zn (nt _ _ this)]; exact this⟩
 ·rw [zn nL]; exact I.free
 ·obtain ⟨v,oc,e1,_⟩:=I0.cell x c e
  rw [zn (ne _ _ e1)]; exact I.freeC x c e
 ·obtain ⟨e,n,r1,r2,r3⟩:=I.pin p hp
  exact ⟨e,by rw [zn (ne _ _ (I0.pin p hp).1)]; exact n,r1,r2,r3⟩
 ·by_cases hb:b=a
  ·subst hb; rw [zG] at q; cases q; exact new
  ·rw [zn hb] at q
   refine (I.hok b u q).stay (fun _ _ _ z=>z) (fun c z=>by rw [zn (nt _ _ z)]; exact z) fun c xs z=>z.ne (by rcases z with z | ⟨_,z⟩ <;> exact nt _ _ z)
theorem Inv.forget {X:Cx} {pins:List (Addr×Obj)} {σ:St} {H:Hp} {s:Shared} {h':Heap} {tk:Nat} {m:Str->Option Value} (I:Inv X pins σ H s) (hn:h'.Ns X.env.locals m) (hs:Heap.SameBut X.env.locals s.heap h'):
  Inv X pins (List.replicate X.N.length none) H { s with heap:=h',toks:=tk }:=by
 have cne:=I.cne
 have lt:∀ b o,X.s₀.heap.get? b=some o->b≠X.env.locals:=fun b o e=>Nat.ne_of_lt (Nat.lt_of_lt_of_le (Heap.lt_size e) I.ok.above)
 refine ⟨I.ok,I.os,I.bare,⟨fun b o e n hb hx=>(hs.2 b (lt b o e)).trans (I.base.keep b o e n hb hx),fun b o e n hb hx=>?_,I.base.free,fun b o e hx=>?_,I.base.tups,I.base.frzs,I.base.tbls⟩,⟨m,hn,fun j y v e1 e2 _=>?_⟩,fun y c e=>?_,I.free,I.freeC,fun p hp=>?_,fun b u q=>?_,by simp⟩
 ·obtain ⟨sl,e1⟩:=I.base.slot b o e n hb hx
  exact ⟨sl,(hs.2 b (lt b o e)).trans e1⟩
 ·obtain ⟨o',e1⟩:=I.base.there b o e hx
  exact ⟨o',(hs.2 b (lt b o e)).trans e1⟩
 ·rw [List.getElem?_replicate] at e2
  split at e2 <;> cases e2
 ·obtain ⟨w',z⟩:=I.cell y c e
  exact ⟨w',z.sameBut hs (cne y c e)⟩
 ·obtain ⟨e,n,ne,nf,d⟩:=I.pin p hp
  exact ⟨(hs.2 p.1 ne).trans e,n,ne,nf,d⟩
 ·refine (I.hok b u q).stay (fun c w' hc z=>(hs.2 c ?_).trans z) (fun _ z=>z) fun _ _ z=>z
  rintro rfl
  rcases hc with e | hc
  ·rw [<- e,I.free] at q; cases q
  ·rw [I.free] at hc; cases hc
section
variable {X:Cx} {k:Nat} {f:Addr} {fd:FuncData} {ps:List Str} {sp:Sp} {g T n:Str} {gp cpos epos tp hpos pos:Pos} {e:Expr} {es:List Expr} {ta:TA} {b₀:Stmt} {suite:List Stmt} {i:Nat} {Tv:Value} {ts:Addr->TS}
end
end L2
namespace L2
open PySem PySem.Spec PySem.W PyProof.Rows PySem.Builtin PySem.Builtin.ObjectAttr PySem.Builtin.Getset_descriptor
section
variable {prog:Program} {w:World} {A:Around} {E:Value->Shared->Prop} {h:Heap} {g:Array GenState} {d:Drawn} {t:Nat} {os:OsState} {a C:Addr} {o:Obj} {K:Frag}
theorem zkG {R:Result->Shared->Prop} (X:K.In h) (hx:h.get? a=some o) (hc:o.cls=.ref C) (hs:subIn K (.ref C) (.type "object")=some true) (hq:R (.ok (.ret (.ref C))) ⟨h,g,d,t,os⟩):
  codeAny (model prog w) A (.call (.builtin "getset_descriptor.__get__") ⟨[.builtin "object.__class__",.ref a,.ref C],[]⟩) R ⟨h,g,d,t,os⟩:=by
 have hT5:(⟨h,g,d,t,os⟩:Shared).TypeIs (.builtin "object.__class__") "getset_descriptor":=F.typeOf_object_class
 have L1:Looks (model prog w) h (isSubtype (.ref C) (.type "object")) true:=looks_subIn X hs
 refine codeAny_call_builtin KF.slot_gs.plain KF.entry_gs (KF.slot_gs.check _ _ _ _ _ _ _ _ KF.type_class (KF.args_gs _ _ _) ?_)
 have L0:Looks (model prog w) h (typeOf (.ref a)) (.ref C):=by rw [<- hc]; exact (Looks.ld hx).andThen Looks.now
 unfold Builtin.«getset_descriptor.__get__» descrGet
 rw [dga_obj]
 refine wpAny_bind (wpAny_pure ?_)
 unfold descrGetter descrCheckInstance descrNameAndClass isInstance
 simp only [KF.owner_class]
 repeat lk
 refine ⟨Code.quiet_builtin _ (by decide +kernel),codeAny_builtin KF.entry_class ?_⟩
 unfold Builtin.«object.__class__» shownTypeOf
 repeat lk
 exact hq
theorem zhC {tk:Tok} {Q:Fin->Shared->Prop} (X:K.In h) (hx:h.get? a=some o) (hc:o.cls=.ref C) (hs:subIn K (.ref C) (.type "object")=some true) (hf:findIn K (.ref C) "__class__"=some (some (.builtin "object.__class__"))) (hq:Q (.done (.ret (.ref C))) ⟨h,g,d,t,os⟩):
  wpAny (model prog w) A (Builtin.«object.__getattribute__» ⟨[.ref a,.str "__class__" tk],[]⟩) Q E ⟨h,g,d,t,os⟩:=by
 have hT5:(⟨h,g,d,t,os⟩:Shared).TypeIs (.builtin "object.__class__") "getset_descriptor":=F.typeOf_object_class
 have f5:=F.typeOf_object_class
 have f6:=F.slot_gs_get.lookup
 have f7:=F.slot_gs_set.lookup
 have L1:Looks (model prog w) h (typeLookup (.ref C) "__class__") (some (.builtin "object.__class__")):=looks_findIn X hf
 repeat (any_goals (first | assumption | (with_reducible refine wpAny_loadPart_at hx ?_; rw [hc]) | with_reducible refine L1.at ?_ | wp_step))
 refine zkG X hx hc hs ?_
 repeat (any_goals (first | assumption | wp_step))
theorem ziA {M:Model} {nameV:Value} {Q:Unit->Shared->Prop} (X:K.In h) (hx:h.get? a=some o) (hc:o.cls=.ref C) (hs:subIn K (.ref C) (.type "BaseException")=some true) (hq:Q () ⟨h,g,d,t,os⟩):
  wpAny M A (checkBuiltinCall "BaseException.__getattribute__" ⟨[.ref a,nameV],[]⟩) Q E ⟨h,g,d,t,os⟩:=by
 have hk:builtinKind "BaseException.__getattribute__"=some .slot:=by decide +kernel
 have hsplit:splitId "BaseException.__getattribute__"=some ("BaseException","__getattribute__"):=by decide +kernel
 have L1:Looks M h (isSubtype (.ref C) (.type "BaseException")) true:=looks_subIn X hs
 have ha:=F.args_bexc_ga (.ref a) nameV
 simp only [checkBuiltinCall,hk,hsplit]
 refine wpAny_bind ?_
 unfold isInstance
 repeat (first | (with_reducible refine wpAny_loadPart_at hx ?_; rw [hc]) | with_reducible refine L1.at ?_ | wp_step)
 exact hq
theorem zlX {tk:Tok} {Q:Value->Shared->Prop} (X:K.In h) (hx:h.get? a=some o) (hc:o.cls=.ref C) (hs:subIn K (.ref C) (.type "object")=some true) (hs2:subIn K (.ref C) (.type "BaseException")=some true)
  (hf:findIn K (.ref C) "__class__"=some (some (.builtin "object.__class__"))) (hga:findIn K (.ref C) "__getattribute__"=some (some (.builtin "BaseException.__getattribute__"))) (hna:findIn K (.ref C) "__getattr__"=some none) (hq:Q (.ref C) ⟨h,g,d,t,os⟩):
  wpAny (model prog w) A (getAttrBy (.ref a) (.str "__class__" tk) false) Q E ⟨h,g,d,t,os⟩:=by
 have f3:=PySem.F.attrBase_ValueError.ga.bind (.ref a)
 have hx2:(Value.builtin "BaseException.__getattribute__" == Value.builtin "object.__getattribute__")=false:=by decide +kernel
 have hx1:(onTheHeap (Value.ref C) && Value.builtin "BaseException.__getattribute__" == Value.builtin "object.__getattribute__")=false:=by rw [hx2]; rfl
 have L1:Looks (model prog w) h (typeLookup (.ref C) "__getattribute__") (some (.builtin "BaseException.__getattribute__")):=looks_findIn X hga
 have L2:Looks (model prog w) h (typeLookup (.ref C) "__getattr__") none:=looks_findIn X hna
 repeat (any_goals (first | assumption | (with_reducible refine wpAny_loadPart_at hx ?_; rw [hc]) | with_reducible refine L1.at ?_ | with_reducible refine L2.at ?_ | wp_step))
 refine codeAny_call_builtin PySem.F.attrBase_ValueError.ga.plain F.entry_bexc_ga (ziA X hx hc hs2 (zhC X hx hc hs hf ?_))
 repeat (any_goals (first | assumption | wp_step))
theorem zjs {Q:Option Value->Shared->Prop} (X:K.In h) (hx:h.get? a=some o) (hc:o.cls=.ref C) (hs:subIn K (.ref C) (.type "object")=some true) (hs2:subIn K (.ref C) (.type "BaseException")=some true)
  (hf:findIn K (.ref C) "__class__"=some (some (.builtin "object.__class__"))) (hga:findIn K (.ref C) "__getattribute__"=some (some (.builtin "BaseException.__getattribute__"))) (hna:findIn K (.ref C) "__getattr__"=some none) (hq:Q (some (.ref C)) ⟨h,g,d,t + 1,os⟩):
  wpAny (model prog w) A (getAttr? (.ref a) "__class__") Q E ⟨h,g,d,t,os⟩:=by
 unfold getAttr? getAttrBy?
 repeat (any_goals (first | assumption | with_reducible apply zlX X hx hc hs hs2 hf hga hna | wp_step))
end
end L2
namespace L2
open PySem PySem.Spec PySem.W PyProof.Rows
structure XCls (K:Frag) (C:Addr):Prop where
 obj:∃ c d cd sl,K.lookup C=some ⟨c,d,.cls cd,sl⟩
 sO:subIn K (.ref C) (.type "object")=some true
 sB:subIn K (.ref C) (.type "BaseException")=some true
 fc:findIn K (.ref C) "__class__"=some (some (.builtin "object.__class__"))
 fg:findIn K (.ref C) "__getattribute__"=some (some (.builtin "BaseException.__getattribute__"))
 fn:findIn K (.ref C) "__getattr__"=some none
theorem zfG {K:Frag} {a C:Addr} (c:XCls K C):KitX K (.ref a) (.ref C) (fun h=>∃ o,h.get? a=some o /\ o.cls=.ref C) where
 ty:=fun _ _ _ ⟨o,hx,hc⟩=>by rw [<- hc]; exact (Looks.ld hx).andThen Looks.now
 it:=fun _ _ X _=>by
  obtain ⟨c',d',cd',sl',ho⟩:=c.obj
  intro A' Q' E' s' k q
  unfold isType loadHead
  exact wpAny_bind (wpAny_loadPart (k _ _ (X _ _ ho)) (wpAny_pure q))
 ne:=fun h tp dd its n sl X htp=>by
  obtain ⟨c',d',cd',sl',ho⟩:=c.obj
  refine Bool.eq_false_iff.mpr fun q=>?_
  have e:C=tp:=Value.ref.inj (beq_iff_eq.mp q)
  subst e
  have z:=(X _ _ ho).symm.trans htp
  cases z
 ca:=fun {_ _ _ _ _ s} X ⟨o,hx,hc⟩ k=>by
  obtain ⟨h,g,d,t,os⟩:=s
  exact zjs X hx hc c.sO c.sB c.fc c.fg c.fn k
noncomputable def isiX (K:Frag):List V->Hp->VK->Prop:=fun vs H Q=>∃ a C cv b,vs=[.ref a,cv] /\ H a=some (ExO a C) /\ XCls K C /\ Q (.bl b) H /\
 ((∃ c,(∀ u,RelV cv u->u=c) /\ kitOne K (.ref C) c=some b) \/ ∃ tp cvs,cv=.ref tp /\ H tp=some (.tup cvs) /\ ∀ its,Vals cvs its->kitAny K (.ref C) its=some b)
theorem ziy {X:Cx}:CallR X (.builtin "isinstance") (isiX X.K):=by
 rintro pins s σ H vs us Q I r ⟨a,C,cv,b,rfl,ha,hc,q,h⟩
 have ⟨u1,u2,e,r1,r2⟩:∃ u1 u2,us=[u1,u2] /\ RelV (.ref a) u1 /\ RelV cv u2:=by
  cases r with
  | cons r1 r'=>cases r' with
    | cons r2 r''=>cases r'' with
      | nil=>exact ⟨_,_,rfl,r1,r2⟩
 subst e
 cases (show u1=Value.ref a from r1)
 have hx:∃ o,s.heap.get? a=some o /\ o.cls=.ref C:=(I.hok a _ ha).1.1
 rcases h with ⟨c,hcv,e⟩ | ⟨tp,cvs,rfl,ht,e⟩
 ·cases hcv u2 r2
  exact kia_one (zfG hc) I.kIn hx e (fun z=>nomatch z) fun tk=>⟨.bl b,H,I.tok tk,rfl,q⟩
 ·cases (show u2=Value.ref tp from r2)
  obtain ⟨_,its,rv,o,ho,ho2,n,ho3⟩:=(show ObjOk X.prog X.w H s.heap tp (.tup cvs) from I.hok tp _ ht)
  obtain ⟨oc,od,odt,osl⟩:=o
  cases ho2
  cases ho3
  exact kia_tup (zfG hc) I.kIn hx ho (e its rv) (fun z=>nomatch z) fun tk=>⟨.bl b,H,I.tok tk,rfl,q⟩
structure RoomX (k:Nat) (A:Around):Prop where
 dp:A.depth + 3 * k + 5 < recursionLimit
 un:A.units + 16 * k + 200 < cLine
theorem Room.markX {k:Nat} {A:Around} (r:Room k A) (v:Option Value):RoomX k (A.mark v):=⟨r.dp,r.un⟩
theorem RoomX.mono {j k:Nat} {A:Around} (r:RoomX k A) (h:j<=k):RoomX j A:=⟨by have:=r.dp; omega,by have:=r.un; omega⟩
theorem RoomX.deeper {k:Nat} {A:Around} (r:RoomX (k + 1) A) (env:Env):RoomX k (A.deeper env):=
 ⟨by have:=r.dp; show A.depth + 1 + 3 * k + 5 < _; omega,by have:=r.un; show A.units + 3 + 16 * k + 200 < _; omega⟩
noncomputable def cxX (P:Program) (w:World) (K:Frag) (mg:Str->Option Value) (base:Heap) (N:List Str) (qual:Str) (scope:Scope) (f:Addr) (cd:Value) (A:Around) (outer:List Env) (s:Shared) (H:Hp):Cx:=
 { cxOf CX0 P w K mg base N qual scope f cd A outer s H E0 with calm:=false,xe:=fun _ _=>False }
section
variable {P:Program} {w:World} {K:Frag} {mg:Str->Option Value} {base:Heap}
end
end L2
namespace L2
open PySem PySem.Spec PySem.W PyProof.Rows
noncomputable def DnR (P:Program) (w:World) (K:Frag) (mg:Str->Option Value) (base:Heap) (k:Nat) (x:Str) (ps:List Str) (sp:Sp):Prop:=
 ∃ f fd,FnOk P w K mg base (CXr P w) k f fd ps sp /\ mg x=some (.ref f) /\ keepIn K (.ref f)=true /\ Binds K fd ps []
section
variable {P:Program} {w:World} {K:Frag} {mg:Str->Option Value} {base:Heap} {x:Str} {st:Stmt} {N ps:List Str} {k:Nat} {sp:Sp}
theorem Df.okR (F:Df K mg x st ps) (S:FnScope N ps (defScope st)) (len:∀ vs H Q E,sp vs H Q E->vs.length=ps.length)
  (hbody:∀ (f:Addr) (cdv:Value) (A:Around) (outer:List Env) (s:Shared) (H:Hp) (vs:List V) (Q:VK) (E:XK),Room k (A.deeper (envOfC x (defScope st) s.heap.objs.size f cdv))->sp vs H Q E->
   ∃ t,PSs (cxOf (CXr P w) P w K mg base N x (defScope st) f cdv A outer s H E) (defBody st) t /\ t { nx:=fun _ H'=>Q .non H',rt:=Q } (start N vs) H):DnR P w K mg base (k + 1) x ps sp:=by
 obtain ⟨f,fd,F,m,b⟩:=F
 have kp:=F.kp
 obtain ⟨oc,od,kV,doc,pm,an,cdv,ct,osl,rfl,lk,hcd⟩:=F.ex
 exact ⟨f,_,zlC lk hcd S len (hbody f cdv),m,kp,b⟩
end
set_option tactic.hygienic true in
theorem zl3 {K:Frag} {mg:Str->Option Value} {x:Str} {C:Addr} {bm:List Value} {newId:String} (hm:mg x=some (.ref C)) (q:excIn K C bm newId=true):∃ tl,ExC K mg x C bm tl newId:=by
 unfold excIn at q
 split at q
 ·rename_i dd cd sl ho
  split at q
  ·rename_i C' tl k0 k1 k2 k3 n k5 hr hs
   simp only [Bool.and_eq_true,beq_iff_eq,Bool.not_eq_true'] at q
   obtain ⟨⟨⟨⟨⟨e1,e2⟩,hdel⟩,ht⟩,hok⟩,hni⟩:=q
   subst e1 e2
   obtain ⟨nm,bs,mro,ns,qn,hd,sn,sub,ab,col,del⟩:=cd
   dsimp only at hr hdel hok hni
   subst hr hdel
   have hsl:sl=#[k0,k1,k2,k3,some (.builtin n),k5]:=by
    obtain ⟨l⟩:=sl
    simp only at hs
    rw [hs]
   subst hsl
   have hno:∃ c d es ep sl2,K.lookup ns=some ⟨c,d,.dict es ep,sl2⟩ /\ (es.all fun e=>match e.key with | .str _ _=>true | _=>false)=true:=by
    unfold nsOkIn at hok
    split at hok
    ·rename_i ho2
     exact ⟨_,_,_,_,_,ho2,hok⟩
    ·cases hok
   obtain ⟨c2,d2,es2,ep2,sl2,hl2,hall⟩:=hno
   refine ⟨tl,hm,ns,nm,qn,bs,hd,sn,sub,ab,col,dd,k0,k1,k2,k3,k5,nsFind es2,?_,fun h X=>⟨X _ _ ho,?_,tail_of_in X ht⟩⟩
   ·unfold nsIn at hni
    rw [hl2] at hni
    dsimp only at hni
    split at hni
    ·cases hni
    ·rename_i he
     unfold nsFind findBy
     rw [<- Array.find?_toList,he]
     rfl
   ·have hns:h.Ns ns (h.nsMap ns):=.of_isNs (isNs_of_in X hok)
    obtain ⟨o,es,ep,h1,h2,h3,h4⟩:=hns
    rw [X _ _ hl2] at h1
    cases h1
    cases h2
    exact ⟨_,_,_,X _ _ hl2,rfl,h3,fun _=>rfl⟩
  ·cases q
 ·cases q
end L2
namespace L2
open PySem PySem.Spec PySem.W PyProof.Rows
noncomputable def isRx:D->Option Str
 | .dict [(.none,.str c)]=>some c
 | _=>none
theorem zew {d:D} {c:Str} (h:isRx d=some c):d=rxD c:=by
 unfold isRx at h
 split at h
 ·cases h; rfl
 ·cases h
theorem zdB {d:D} {r:List (D×D)} {kvs:List (List Key×V)} {d':D} (k:((d,d') :: r).map (·.1)=kvs.map (fun p=>PyData.tuple (p.1.map keyD))) (h:∀ l,d≠.tuple l):False:=by
 cases kvs with
 | nil=>cases k
 | cons p q=>exact h _ (List.cons.inj k).1
theorem zmO {K:Frag} {H:Hp} {v:V} {c:Str} (h:HD K H v (rxD c)):False:=by
 unfold rxD at h
 cases h with
 | dct _ k _=>exact zdB k fun _ z=>nomatch z
noncomputable def xkOf (mg:Str->Option Value) (E:XK):Str->Hp->Prop:=fun c H=>∀ C,mg c=some (.ref C)->E (.ref C) none H
noncomputable def gRaise (c:Str):DS->Option Res:=fun _=>some (.rt (rxD c))
section
variable {P:Program} {w:World} {K:Frag} {mg:Str->Option Value} {base:Heap} {N ps:List Str} {x qual:Str} {st:Stmt} {scope:Scope} {f:Addr} {cd:Value} {A:Around} {outer:List Env} {s:Shared} {H:Hp} {E:XK} {O:List Nat} {k:Nat}
theorem zi1 {c:Str} {C:Addr} {b:Bool} {bm tl bmN:List Value} {newId nid initId inN B Bn:String} {e₀:Expr} {v:V} {np cpos pos:Pos} (hC:ExC K mg c C bm tl newId) (Fn:ExcBaseFacts Bn newId inN bmN) (hBn:bm.contains (.type Bn)=true) (FB:ExcBaseFacts B nid initId bm)
  (ha:PE (cxOf (CXr P w) P w K mg base N qual scope f cd A outer s H E) e₀ (tC v)) (hg:Gl (cxOf (CXr P w) P w K mg base N qual scope f cd A outer s H E) c:=by rfl)
  (he:starEach [e₀] (envOfC qual scope s.heap.objs.size f cd)=[(false,eval e₀ (envOfC qual scope s.heap.objs.size f cd))]:=by rfl) (he0:starEach ([]:List Expr) (envOfC qual scope s.heap.objs.size f cd)=[]:=by rfl) (hd:(c == ("__debug__":Str))=false:=by decide):
  PS (cxOf (CXr P w) P w K mg base N qual scope f cd A outer s H E) (.Raise (some (.Call (.Name c np) [e₀] [] cpos)) none pos) (tS K O (b,xkOf mg E) (gRaise c)):=
 (zi0 hC Fn hBn FB (zC ha zY (by show starEach [e₀] (envOfC qual scope s.heap.objs.size f cd)=(false,eval e₀ (envOfC qual scope s.heap.objs.size f cd)) :: starEach [] (envOfC qual scope s.heap.objs.size f cd); rw [he,he0])) hg (by rw [he,he0]) (by rw [he0]; rfl) hd).mono fun D σ H1 hh=>hh.e fun H0 U A0 δ r R F ed Q=>by
  cases ed
  exact ⟨by show 1<=sizeLine; decide,Q.2 c H1 rfl F.same C hC.bound⟩
end
section
variable {X:Cx} {O:List Nat} {E:XK} {k kk n i:Nat} {x:Str} {ps:List Str} {p pos:Pos} {e:Expr} {es:List Expr} {gr:DS->Option (List D)} {G:List D->Option D} {st:Stmt} {b:Bool}
end
theorem ziC {K:Frag} {b:Bool} {H0 H':Hp} {A0:List Addr} {v:V} {c:Str} (h:RetR K b H0 A0 v (rxD c) H'):False:=by
 unfold RetR at h
 split at h
 ·obtain ⟨r,o,_,_,_,_,q⟩:=h
  cases q with
  | dct k _=>exact zdB k fun _ z=>nomatch z
 ·exact zmO h.2
noncomputable abbrev Cx.tr (X:Cx) (pins0:List (Addr×Obj)) (E:XK):Cx:={ X with pn:=X.pn ++ pins0,xe:=fun v s1=>∃ σ H0 s0,Inv X pins0 σ H0 s0 /\ CXr X.prog X.w X.stack H0 s0 E v s1 }
section
variable {X:Cx} {pins pins0:List (Addr×Obj)} {σ:St} {H:Hp} {s:Shared} {E:XK}
theorem Cx.Ok.tr (ok:X.Ok):(X.tr pins0 E).Ok:=
 ⟨ok.mod,ok.kind,ok.glob,ok.blt,ok.above,ok.inj,ok.has,ok.cab,ok.hd,ok.frames,ok.stk,ok.exf,ok.bs,ok.bsz,ok.noex,ok.exfs,ok.funs,ok.frf⟩
theorem Cx.Ok.untr (ok:(X.tr pins0 E).Ok):X.Ok:=
 ⟨ok.mod,ok.kind,ok.glob,ok.blt,ok.above,ok.inj,ok.has,ok.cab,ok.hd,ok.frames,ok.stk,ok.exf,ok.bs,ok.bsz,ok.noex,ok.exfs,ok.funs,ok.frf⟩
theorem Inv.tr (I:Inv X pins0 σ H s):Inv (X.tr pins0 E) [] σ H s:=⟨I.ok.tr,I.os,I.bare,I.base,I.loc,I.cell,I.free,I.freeC,fun p hp=>I.pin p (by rw [List.append_nil] at hp; exact hp),I.hok,I.len⟩
theorem Inv.untr (I:Inv (X.tr pins0 E) pins σ H s):Inv X pins0 σ H s:=⟨I.ok.untr,I.os,I.bare,I.base,I.loc,I.cell,I.free,I.freeC,fun p hp=>I.pin p (List.mem_append_left _ hp),I.hok,I.len⟩
theorem zkx:Passes (CXr X.prog X.w) (X.tr pins0 E) E:=fun _ σ H s _ _ I h=>⟨σ,H,s,I.untr,h⟩
end
noncomputable abbrev exD (a:Addr) (c:Str):D:=.dict [(.list [],.tuple [.int (a:Nat),.str c])]
noncomputable def gTry (gb:DS->Option Res) (hand:Str->Option D):DS->Option Res:=fun δ=>(gb δ).bind fun r=>match r with
 | .rt d=>(match isRx d with
   | some c=>(hand c).bind fun d'=>some (.rt d')
   | none=>some (.rt d))
 | r=>some r
theorem Rel.caught {K:Frag} {O:List Nat} {A0:List Addr} {σ:St} {H1:Hp} {n i:Nat} {a C:Addr} {c:Str} (hl:σ.length=n) (hi:i < n) (hO:i∉O) (al:Ls A0 H1) (ta:H1 a=none) (hns:nsIn K mainGlobals c=some (some (.ref C))):
  Rel K O [] A0 (σ.set i (some (.ref a))) ((List.replicate n none).set i (some (exD a c))) (upd H1 a (ExO a C)):=by
 have get:∀ (j:Nat) d,((List.replicate n (none:Option D)).set i (some (exD a c)))[j]?=some (some d)->j=i /\ d=exD a c:=fun j d q=>by
  by_cases hj:i=j
  ·subst hj
   rw [List.getElem?_set_self (by rw [List.length_replicate]; exact hi)] at q
   cases q
   exact ⟨rfl,rfl⟩
  ·rw [List.getElem?_set_ne hj] at q
   have:=List.mem_of_getElem? q
   rw [List.mem_replicate] at this
   exact absurd this.2 (fun z=>nomatch z)
 exact {
  len:=by rw [List.length_set,List.length_set,List.length_replicate]; exact hl
  fz:=fun j d _ q=>by
   obtain ⟨rfl,rfl⟩:=get j d q
   exact ⟨.ref a,List.getElem?_set_self (by rw [hl]; exact hi),.exc hns (by show wo (upd H1 a (ExO a C)) A0 a=_; rw [zL (fun z=>al.free ta z)]; exact zG)⟩
  ow:=fun j d hj q=>absurd hj (by rw [(get j d q).1]; exact hO)
  inj:=fun j k d e l hj _ _ q _ _ _=>absurd hj (by rw [(get j d q).1]; exact hO)
  al:=al.same (zI ta _) }
section
variable {X:Cx} {O:List Nat} {T n:Str} {Tv:Value} {tp hpos pos:Pos} {body suite:List Stmt} {b₀:Stmt} {gb:DS->Option Res} {gs:Addr->DS->Option Res} {hand:Str->Option D} {xk:Str->Hp->Prop} {i:Nat}
theorem zmC {b:Bool} (hb:∀ pins0 E,PSs (X.tr pins0 E) body (tS X.K O (b,xkOf X.mg E) gb)) (hs:∀ a,PSs (X.inX a) (b₀ :: suite) (tS X.K O (b,fun _ _=>True) (gs a)))
  (hcl:∀ c d,hand c=some d->∃ C,nsIn X.K mainGlobals c=some (some (.ref C)) /\ X.mg c=some (.ref C) /\ exmOne X.K (.ref C) Tv=some true)
  (hh:∀ a c d,hand c=some d->gs a ((List.replicate X.N.length none).set i (some (exD a c)))=some (.rt d)) (hT:X.mg T=some Tv) (hN:X.N.Nodup) (hi:X.N[i]?=some n:=by rfl) (hiO:i∉O:=by decide)
  (hl:X.env.scope.names.lookup n=some .local:=by rfl) (hgT:Gl X T:=by rfl) (hst:X.stack=X.env :: X.outer:=by rfl) (hfr:X.env.frame=some X.env.locals:=by rfl) (hdT:(T == ("__debug__":Str))=false:=by decide):
  PS X (.Try body [.ExceptHandler (some (.Name T tp)) (some n) (b₀ :: suite) hpos] [] [] pos) (tS X.K O (b,xk) (gTry gb hand)):=by
 rintro pins s σ H D I ⟨H00,U,A0,δ,r,R,F,ed,P⟩
 obtain ⟨r0,e1,e2⟩:=bind1 ed
 refine wpAny_Try_except ?_
 refine wpAny_mono (hb pins (fun cv _ H2=>∃ c C,r0=.rt (rxD c) /\ cv=.ref C /\ X.mg c=some (.ref C) /\ Same H00 H2) [] s σ H D I.tr ⟨H00,U,A0,δ,r0,R,F,e1,?_⟩) (fun fl s1 hq=>?_) ?_
 ·cases r0 with
  | nx δ'=>cases e2; exact P
  | bk δ'=>cases e2; exact P
  | ct δ'=>cases e2; exact P
  | rt d=>
    cases hx:isRx d with
    | none=>
      simp only [hx] at e2
      cases e2
      exact ⟨P.1,fun c H' hd s=>by subst hd; cases hx⟩
    | some c=>
      have hd:=zew hx
      subst hd
      exact ⟨fun v H' h=>(ziC h).elim,fun c' H' hd s C hC=>⟨c',C,by rw [hd],rfl,hC,s⟩⟩
 ·cases fl with
  | next=>obtain ⟨σ',H',I',q⟩:=hq; exact wpAny_execs_nil ⟨σ',H',I'.untr,q⟩
  | brk=>obtain ⟨σ',H',I',q⟩:=hq; exact ⟨σ',H',I'.untr,q⟩
  | cont=>obtain ⟨σ',H',I',q⟩:=hq; exact ⟨σ',H',I'.untr,q⟩
  | ret u=>obtain ⟨v,σ',H',I',rv,q⟩:=hq; exact ⟨v,σ',H',I'.untr,rv,q⟩
 rintro v s1 ⟨σ0,H0,s0,I0,a,t,C,B,H1,rfl,os,bare,un,hok,na,ta,cov,fly,nc0,c,C',er,hC,hm,hsame⟩
 cases hC
 subst er
 have e3:((hand c).bind fun d'=>some (Res.rt d'))=some r:=e2
 obtain ⟨d,hd,hr⟩:=bind1 e3
 cases hr
 obtain ⟨C2,hns,hm2,hex⟩:=hcl c d hd
 rw [hm] at hm2
 cases hm2
 have fr:=fly.2.2.1
 have st:=fly.1
 have fly':Heap.FlyingW B (X.env :: X.outer) a (.ref C) (.ref t) s1.heap:=by rw [<- hst]; exact fly
 have nf:∀ b∈frs X.stack,H1 b=none:=fun b hb=>by
  obtain ⟨_,o,ho,_⟩:=I0.stack.mem hb
  exact un.free b o ho (I0.stkFree b hb) fun z=>nomatch z
 have again:∀ {h2:Heap},Heap.FlyingW B (X.env :: X.outer) a (.ref C) (.ref t) h2->s1.heap.UpToSlots h2->Inv X pins σ0 H1 { s1 with heap:=h2 }:=fun {h2} fly2 up2=>
  I0.call' (ch:=[]) os (zjT un cov st fly2.1 up2 fr) (zgQ hok cov st fly2.1 nf) bare (fun b z=>nomatch z)
 refine zgN (I0.ok.frames.trans (congrArg some hst)) hfr fly' nc0 fun h4 held nc4 up4=>?_
 refine landsX held nc4 fun h5 fly5 nc5 up5=>?_
 have I5:=again fly5 (up4.trans up5)
 have LT:Looks (model X.prog X.w) h5 (typeOf (.ref a)) (.ref C):=by
  obtain ⟨ob,hob,hc⟩:=fly5.there
  rw [<- hc]
  exact (Looks.ld hob).andThen Looks.now
 refine wpAny_handleBy_cons (codeAny_handlers_test (zcG (I5.inX a) hgT hT ?_ hdT)) (by intro q; cases q)
 refine (exm_one (M:=model X.prog X.w) I5.kIn LT hex).here ?_
 refine codeAny_handlers_suite_as (zd7 fly5 nc5 fun h6 fly6 nc6 up6=>?_)
 have I6:=again fly6 ((up4.trans up5).trans up6)
 have hnew:∃ o,h6.get? a=some o /\ o.cls=.ref C:=fly6.there
 have I6t:=I6.trackX (o:=ExO a C) I0 na ta ⟨⟨hnew,nc6⟩,let ⟨o,q,_⟩:=hnew; ⟨o,q⟩,fun h1 h2 ⟨⟨o,q,c⟩,⟨o2,fs,q2,c2⟩⟩ kk=>⟨⟨o,kk o q,c⟩,⟨o2,fs,kk o2 q2,c2⟩⟩⟩
 refine zdA (X:=X.inX a) (v:=.ref a) (I6t.inX a) hN hi (.inl hl) rfl (fun s7 I7=>?_) (.inr hl)
 have hin:i < X.N.length:=(List.getElem?_eq_some_iff.mp hi).1
 refine wpAny_mono (hs a pins s7 _ _ { nx:=fun _ _=>False,rt:=D.rt } I7 ⟨H00,[],A0,_,.rt d,Rel.caught I0.len hin hiO (F.old.same hsame) ta hns,⟨hsame.trans (zI ta _),fun _ z=>(by simp at z),F.old⟩,hh a c d hd,⟨fun v H' h=>P.1 v H' h,fun _ _ _ _=>trivial⟩⟩) (fun fl s8 hq=>?_) fun _ _ z=>z.elim
 cases fl with
 | ret u=>
   obtain ⟨v,σ',H',J,rv,q⟩:=hq
   obtain ⟨m,hn,_⟩:=id J.loc
   exact wpAny_nameGoes hl hn (by rw [I0.ok.kind]; rfl) fun h9 m' hn' hs'=>⟨v,_,H',(J.outX I0.ok).forget hn' hs',rv,q⟩
 | next=>obtain ⟨_,_,_,q⟩:=hq; exact q.elim
 | brk=>obtain ⟨_,_,_,q⟩:=hq; exact q.elim
 | cont=>obtain ⟨_,_,_,q⟩:=hq; exact q.elim
end
noncomputable def isX (c T:Str):Bool:=decide (c=T) || decide (T="ValueError") || decide (T="LotError")
noncomputable def exP:D->Option (Int×Str)
 | .dict (p :: _)=>(match p.1 with
   | .list _=>(match p.2 with
     | .tuple (.int a :: .str c :: _)=>some (a,c)
     | _=>none)
   | _=>none)
 | _=>none
noncomputable def gIsiX (cs:List Str) (T:Str) (g:DS->Option D):DS->Option D:=fun δ=>(g δ).bind fun d=>(exP d).bind fun y=>if y.2∈cs then some (.bool (isX y.2 T)) else none
noncomputable def ClT (K:Frag) (cs:List Str) (T:Str) (Tv:Value):Prop:=∀ c∈cs,∀ C,nsIn K mainGlobals c=some (some (.ref C))->XCls K C /\ kitOne K (.ref C) Tv=some (isX c T)
theorem zh1 {kds:List (D×D)} {kvs:List (List Key×V)} {y:Int×Str} (k:kds.map (·.1)=kvs.map (fun p=>PyData.tuple (p.1.map keyD))) (e:exP (.dict kds)=some y):False:=by
 cases kds with
 | nil=>cases e
 | cons p r=>
   obtain ⟨d,d'⟩:=p
   refine zdB k fun l z=>?_
   subst z
   cases e
theorem ShD.excP {K:Frag} {A:List Addr} {H:Hp} {v:V} {d:D} {y:Int×Str} (h:ShD K A H v d) (e:exP d=some y):∃ a C:Addr,y.1=(a:Nat) /\ v=.ref a /\ nsIn K mainGlobals y.2=some (some (.ref C)) /\ H a=some (ExO a C):=by
 rcases h with h | ⟨l,o,rfl,e',q⟩
 ·cases h with
  | dct _ k _=>exact (zh1 k e).elim
  | exc k h=>cases e; exact ⟨_,_,rfl,rfl,k,(zbG h).2⟩
  | _=>cases e
 ·cases q with
  | dct k _=>exact (zh1 k e).elim
  | lst _=>cases e
section
variable {X:Cx} {O:List Nat} {e:Expr} {ga:DS->Option D} {pos p p2:Pos} {T:Str} {Tv:Value} {cv:V}
set_option tactic.hygienic true in
theorem zgL (cs:List Str) (hB:X.mg "isinstance"=none) (ha:PE X e (tSh X.K O ga)) (ht:PE X (.Name T p2) (tC cv)) (hcv:∀ u,RelV cv u->u=Tv) (hT:ClT X.K cs T Tv) (hg:Gl X "isinstance":=by rfl)
  (he:starEach [e,.Name T p2] X.env=(false,eval e X.env) :: starEach [.Name T p2] X.env:=by rfl) (he2:starEach [.Name T p2] X.env=(false,eval (.Name T p2) X.env) :: starEach [] X.env:=by rfl) (hpl:(backTo pos (starEach [.Name T p2] X.env)).any (·.1)=false:=by rfl):
  PE X (.Call (.Name "isinstance" p) [e,.Name T p2] [] pos) (tE X.K O (gIsiX cs T ga)):=
 (zcn ziy hg hB zbK (zC ha (zC ht zY he2) he) (by decide) (by decide) he hpl).mono fun σ H Q hh=>hh.e fun U A0 δ d R ed q=>by
  obtain ⟨x,e1,e2⟩:=bind1 ed
  obtain ⟨y,e3,e4⟩:=bind1 e2
  split at e4
  ·rename_i hz
   cases e4
   refine ⟨U,A0,δ,_,R,e1,fun v H' s h=>?_⟩
   obtain ⟨a,C,_,rfl,hns,hH⟩:=h.excP e3
   obtain ⟨xc,kt⟩:=hT _ hz C hns
   exact ⟨a,C,cv,_,rfl,hH,xc,q _ H' s (.bl _),.inl ⟨Tv,hcv,kt⟩⟩
  ·cases e4
end
noncomputable def hxG (x:Addr) (X:Cx):Prop:=X.A.handled=some (.ref x)
noncomputable def Itrx (x:Addr) (lo:Int) (n:Nat):It:=⟨fun i _=>i < n,fun i H v H'=>H'=H /\ v=.int (lo + i),fun i H=>n<=i /\ ∃ C,H x=some (ExO x C)⟩
theorem zeU {P:Program} {w:World} {K:Frag} {tg:Expr} (x it:Addr) (lo:Int) (n:Nat):TurnG (hxG x) P w K tg (Itrx x lo n) [it] it (fun i h=>IsRangeIter h it (lo + (i:Nat) * 1) ((n:Int) - (i:Nat)) 1) where
 mem:=by simp
 obj:=fun i h st b hb=>by
  have e:b=it:=by simpa using hb
  subst e
  exact ⟨_,st,fun v z=>by
   have z':Data.fields _=Data.cell v:=z
   cases z'⟩
 keep:=fun i h h' st k=>k it (by simp) _ st
 item:=by
  intro X hP hw hK hc i pins s σ H E I hf st hg
  subst hP hw hK
  obtain ⟨f0,f1,f2,f3,f4,f5⟩:=hf it (by simp)
  have hg':i < n:=hg
  refine wpAny_pyNext_range_item st (by omega) fun h' hit' hs'=>?_
  have st':IsRangeIter h' it (lo + ((i + 1:Nat):Int) * 1) ((n:Int) - ((i + 1:Nat):Int)) 1:=by
   have e1:lo + ((i + 1:Nat):Int) * 1=lo + (i:Int) * 1 + 1:=by push_cast; omega
   have e2:(n:Int) - ((i + 1:Nat):Int)=(n:Int) - (i:Int) - 1:=by push_cast; omega
   rw [e1,e2]; exact hit'
  have I1:Inv X pins σ H { s with heap:=h',toks:=s.toks + 1 }:=I.turned (fun b o hb e=>hs'.extBut b o hb e) f0 f1 f3 f4 f5
  refine ⟨_,rfl,zjd (s:={ s with heap:=h',toks:=s.toks + 1 }) (n:="range_iterator") st' rfl rfl (by decide) ⟨.int (lo + i),H,I1,⟨s.toks,?_⟩,⟨rfl,rfl⟩,st',fun b hb=>(hf b hb).1⟩⟩
  rw [Int.mul_one]
 done:=by
  intro X hP hw hK hc i pins s σ H E I hf st hg
  subst hP hw hK
  obtain ⟨f0,f1,f2,f3,f4,f5⟩:=hf it (by simp)
  obtain ⟨hn,C,hC⟩:=hg
  obtain ⟨ox,fs,ho,hd,h2⟩:=(show NoCtx s.heap x from (I.hok x _ hC).1.2)
  exact zdq hc ho hd h2 st (by omega) fun h' eb=>⟨rfl,I.turned (t':=s.toks) (fun b o hb e=>eb b o hb e) f0 f1 f3 f4 f5⟩
 self:=fun _ _ _ _ _ st h=>wpAny_pyIter_rangeiter st h
section
variable {X:Cx} {tg:Expr}
theorem zhZ {x:Addr} {pins:List (Addr×Obj)} {σ:St} {H:Hp} {s:Shared} {R:It->Hp->Prop} {E:Value->Shared->Prop} {lo hi:Int} {t u v:Tok} {tk:Nat} (I:Inv X pins σ H s) (h1: -(2 ^ 62)<=lo) (h2:lo < 2 ^ 62) (h3: -(2 ^ 62)<=hi) (h4:hi < 2 ^ 62)
  (q:R (Itrx x lo (hi - lo).toNat) H):wpAny (model X.prog X.w) X.A (pyIter (.ref s.heap.objs.size)) (PIEG (hxG x) X pins σ tg R) E { s with heap:=s.heap.push { cls:=.type "range",data:=.fields #[.int lo t,.int hi u,.int 1 v] },toks:=tk }:=by
 refine wpAny_pyIter_range (IsRange.new ..) (small_one h1 h2 h3 h4) ?_
 have I1:Inv X pins σ H { s with heap:=s.heap.push { cls:=.type "range",data:=.fields #[.int lo t,.int hi u,.int 1 v] },toks:=tk }:=I.kept fun b o e=>Heap.get?_push_of_some _ e
 refine ⟨(s.heap.push { cls:=.type "range",data:=.fields #[.int lo t,.int hi u,.int 1 v] }).objs.size,[(s.heap.push { cls:=.type "range",data:=.fields #[.int lo t,.int hi u,.int 1 v] }).objs.size],_,_,H,rfl,
  I1.kept (t':=tk) fun b o e=>Heap.get?_push_of_some _ e,zeU x _ lo (hi - lo).toNat,?_,fun b hb=>?_,q⟩
 ·have e1:lo + ((0:Nat):Int) * 1=lo:=by simp
  have e2:(((hi - lo).toNat:Nat):Int) - ((0:Nat):Int)=Builtin.Range.rangeSize lo hi 1:=by rw [rangeSize_one]; split <;> omega
  show IsRangeIter _ _ (lo + ((0:Nat):Int) * 1) ((((hi - lo).toNat:Nat):Int) - ((0:Nat):Int)) 1
  rw [e1,e2]
  exact Heap.get?_push_size _ rfl
 ·have e:b=(s.heap.push { cls:=.type "range",data:=.fields #[.int lo t,.int hi u,.int 1 v] }).objs.size:=by simpa using hb
  subst e
  exact I1.fpOk (Nat.le_refl _) (I1.hok.fresh (Nat.le_refl _))
noncomputable def gRange1X (x:Addr) (j:Nat) (g:DS->Option (List D)):DS->Option (List D):=fun δ=>((δ[j]?).join.bind exP).bind fun y=>if y.1=(x:Nat) then gRange1 g δ else none
set_option tactic.hygienic true in
theorem zgh {O:List Nat} {a:Expr} {gr:DS->Option (List D)} {p pos:Pos} (x:Addr) (j:Nat) (hm:X.mg "range"=none) (ha:PA X [a] (tAs X.K O gr)) (hg:Gl X "range":=by rfl) (hs:starEach [a] X.env=[(false,eval a X.env)]:=by rfl):
  PIG (hxG x) X tg (.Call (.Name "range" p) [a] [] pos) (tIc X.K O (gRange1X x j gr)):=by
 rintro pins s σ H Q I ⟨U,A0,δ,ds,R,ed,q⟩
 obtain ⟨y,ey,ed2⟩:=bind1 ed
 obtain ⟨d0,hj,ej⟩:=bind1 ey
 ·split at ed2
  ·rename_i ha0
   obtain ⟨v0,_,hv0⟩:=R.at (zB hj)
   obtain ⟨a1,C,ea,_,_,hH⟩:=hv0.excP ej
   have hax:a1=x:=Int.ofNat.inj (ea.symm.trans ha0)
   subst hax
   obtain ⟨xs,e1,e2⟩:=bind1 ed2
   split at e2
   ·split at e2
    ·rename_i j0 hz
     cases e2
     refine Call_ (zbM I hg hm boot_range (PyProof.Rows.callWith_type1 (thn (ha pos pins s σ H (fun vs H1=>Same H H1 /\ HDs X.K (wo H1 (U ++ A0)) vs [.int j0]) I ⟨U,A0,δ,_,R,e1,fun vs H' s h=>⟨s,h⟩⟩) fun us s1 ⟨vs,H1,I1,r1,s1',h1⟩=>?_) hs rfl))
     cases h1 with
     | cons h1 h2=>
       cases h2
       cases h1
       cases r1 with
       | cons r rr=>
         cases rr
         obtain ⟨t,rfl⟩:=r
         refine call_range_1 (zhZ (x:=a1) I1 (by omega) (by omega) hz.1 hz.2 (q _ H1 s1' fun i H2 s2=>⟨fun d hd=>?_,fun hi=>?_⟩))
         ·rw [Int.sub_zero]
          obtain ⟨hi,rfl⟩:=zc8 hd
          refine ⟨hi,fun y H3 hy=>?_⟩
          obtain ⟨rfl,rfl⟩:=hy
          exact ⟨Same.refl _,.int _⟩
         ·rw [zdb] at hi
          subst hi
          rw [Int.sub_zero]
          exact ⟨Nat.le_refl _,C,s2 _ _ (s1' _ _ hH)⟩
    ·cases e2
   ·cases e2
  ·cases ed2
end
section
variable {X:Cx} {O:List Nat} {scope:Scope} {elt iter tg:Expr} {ifs:List Expr} {pos:Pos} {gi:DS->Option (List D)} {ge:DS->Option D} {gt:D->DS->Option DS} {gc:DS->Option Bool} {k:Nat}
theorem zhh {gd:Cx->Prop} {i:Nat} {y:Str} {py spos:Pos} (sc:Scope) (N:List Str) (ix:List Nat) (N' xs:List Str) (hc:∀ cl C s2 H2 fp pins,gd (compCx X scope N' cl C s2 H2 fp pins)) (hN0:X.N.Nodup) (hi0:X.N[i]?=some y) (hy:X.env.scope.names.lookup y=some .local) (own:Own k gt) (hi:PIG gd X tg iter (tIc X.K O gi))
  (hg:∀ cl C s2 H2 fp pins,PG (compCx X scope N' cl C s2 H2 fp pins) tg (tG X.K [] gt)) (hf:∀ cl C s2 H2 fp pins,PF (compCx X scope N' cl C s2 H2 fp pins) ifs (tT X.K [] gc)) (helt:∀ cl C s2 H2 fp pins,PE (compCx X scope N' cl C s2 H2 fp pins) elt (tE X.K [] ge))
  (hix:∀ j∈ix,j∉O:=by decide) (hk:compChkL sc scope N xs ix N'=true:=by decide +kernel) (hl:xs.length=k:=by rfl)
  (e1:X.env.scope=sc:=by rfl) (e2:X.N=N:=by rfl) (hs:∀ x,foldedSetIterable iter X.env x=pure x:=by intro _; rfl) (hsw:swapsWith (.ListComp elt [⟨tg,iter,ifs,0⟩] scope pos) (some (.Name y py)) spos.line X.env=pure true:=by rfl):
  PS X (.Assign [.Name y py] (.ListComp elt [⟨tg,iter,ifs,0⟩] scope pos) spos) (tAsg (tN X.K O (gCompL gi k ix gt gc ge)) (gName i)):=by
 subst hl
 exact (zev (zbX hk e1 e2) hc hi hg hf helt hs hN0 hi0 hy hsw).mono fun _ _ _ h=>zdw own hix h
end
theorem RoomX.units {k:Nat} {A:Around} (r:RoomX k A):A.units + 64 < cLine:=by have:=r.un; omega
theorem zmx {X:Cx} {k:Nat} (hr:RoomX k X.A):OpR X (compareOp .NotEq) (rEqH X.K true):=by
 intro pins s σ H x y v u Q I rx ry h
 obtain ⟨d,e,h1,h2,s1,s2,q⟩:=h
 obtain ⟨as,r1⟩:=h1.reads I rx (zaP s1)
 obtain ⟨bs,r2⟩:=h2.reads I ry (zaP s2)
 exact ne_dataH r1 r2 s1 s2 hr.units ⟨.bl _,H,I,rfl,q⟩
structure FnW (P:Program) (w:World) (K:Frag) (mg:Str->Option Value) (base:Heap) (k:Nat) (f:Addr) (fd:FuncData) (ps:List Str) (sp:Addr->Sp):Prop where
 len:∀ x vs H Q E,sp x vs H Q E->vs.length=ps.length
 run:∀ (x:Addr) (A:Around) (outer:List Env) (s:Shared) (H:Hp) (args:Args) (us:List Value) (vs:List V) (Q:VK) (E:XK),RoomX k A->A.handled=some (.ref x)->Env0 P w K mg base A outer s H->BindsTo s fd args (ps.zip us)->Vals vs us->sp x vs H Q E->
  codeAny (model P w) A (.call (.ref f) args) (CR CX0 outer P w H s Q E) s
section
variable {P:Program} {w:World} {K:Frag} {mg:Str->Option Value} {base:Heap}
theorem zlZ {k:Nat} {f:Addr} {name qual:Str} {params:Arguments} {body:List Stmt} {scope:Scope} {dV kV doc pm cdv ct oc:Value} {an od:Option Addr} {osl:Array (Option Value)} {N ps:List Str} {sp:Addr->Sp}
  (lk:K.lookup f=some ⟨oc,od,.func (fnOf name qual params body scope dV kV doc pm an cdv ct),osl⟩) (hcd:codeIn K cdv qual=true) (S:FnScope N ps scope) (len:∀ x vs H Q E,sp x vs H Q E->vs.length=ps.length)
  (hbody:∀ (x:Addr) (A:Around) (outer:List Env) (s:Shared) (H:Hp) (vs:List V) (Q:VK) (E:XK),RoomX k (A.deeper (envOfC qual scope s.heap.objs.size f cdv))->A.handled=some (.ref x)->sp x vs H Q E->
   ∃ t,PSs (cxX P w K mg base N qual scope f cdv A outer s H) body t /\ t { nx:=fun _ H'=>Q .non H',rt:=Q } (start N vs) H):
  FnW P w K mg base (k + 1) f (fnOf name qual params body scope dV kV doc pm an cdv ct) ps sp:=by
 refine ⟨len,fun x A outer s H args us vs Q E hr hx e0 hb r hsp=>?_⟩
 have KX:K.In s.heap:=e0.mod.kin.keeps fun b o e=>(e0.bs b o e).1
 have lim:s.heap.NoLimit:=e0.mod.nolimit.keeps fun b o e=>(e0.bs b o e).1
 obtain ⟨t,ht,hq⟩:=hbody x A outer s H vs Q E (hr.deeper _) hx hsp
 have hkind:∀ y∈ps.zip us,scope.names.lookup y.1=some .local \/ (scope.names.lookup y.1=some .cell /\ ((cellsFrom (s.heap.objs.size + 1) scope.names []).lookup y.1).isSome=true):=fun ⟨n,v⟩ hy=>
  (S.par n (List.of_mem_zip hy).1).elim .inl fun q=>.inr ⟨q,cellsFrom_some _ _ _ (.inl q)⟩
 refine codeAny_call_function (by have:=hr.dp; omega) (KX _ _ lk) rfl S.co S.gen rfl (codeRec_of KX hcd) (hb _ _ _ _ (wpAny_newFunctionEnv_cells S.kind hkind fun env he s1 x=>?_))
 subst he
 refine ⟨lim.keeps x.toInCall.keep,codeAny_func ?_⟩
 have e1:Env0 P w K mg base { A with handled:=none } outer s H:=⟨e0.frames,e0.mod,e0.bs,e0.bsz,e0.funs,e0.frf,e0.hok,e0.bare⟩
 have J:Inv (cxOf CX0 P w K mg base N qual scope f cdv { A with handled:=none } outer s H E0) [] (start N vs) H s1:=zep S rfl e1 (len _ _ _ _ _ hsp) r x
 have I:Inv (cxX P w K mg base N qual scope f cdv A outer s H) [] (start N vs) H s1:=
  ⟨⟨J.ok.mod,J.ok.kind,J.ok.glob,J.ok.blt,J.ok.above,J.ok.inj,J.ok.has,J.ok.cab,(fun z=>nomatch z),Around.frames_deeper e0.frames,J.ok.stk,J.ok.exf,J.ok.bs,J.ok.bsz,J.ok.noex,J.ok.exfs,J.ok.funs,J.ok.frf⟩,
    J.os,J.bare,J.base,J.loc,J.cell,J.free,J.freeC,J.pin,J.hok,J.len⟩
 refine wpAny_mono (ht [] s1 (start N vs) H _ I hq) (fun fl s' hs=>?_) fun e s' hs=>hs.elim
 cases fl with
 | ret u=>
   obtain ⟨v,σ',H',J',rv,q⟩:=hs
   exact ⟨v,H',J'.os,J'.bare,J'.base,J'.hok,rv,q⟩
 | next=>
   obtain ⟨σ',H',J',q⟩:=hs
   exact ⟨.non,H',J'.os,J'.bare,J'.base,J'.hok,rfl,q⟩
 | brk=>obtain ⟨_,_,_,q⟩:=hs; exact q.elim
 | cont=>obtain ⟨_,_,_,q⟩:=hs; exact q.elim
noncomputable def DnW (P:Program) (w:World) (K:Frag) (mg:Str->Option Value) (base:Heap) (k:Nat) (x:Str) (ps:List Str) (sp:Addr->Sp):Prop:=
 ∃ f fd,FnW P w K mg base k f fd ps sp /\ mg x=some (.ref f) /\ keepIn K (.ref f)=true /\ Binds K fd ps []
theorem zkw {x:Str} {st:Stmt} {N ps:List Str} {k:Nat} (O:List Nat) (g:Addr->DS->Option Res) (F:Df K mg x st ps) (S:FnScope N ps (defScope st))
  (body:∀ (y f:Addr) (cdv:Value) (A:Around) (outer:List Env) (s:Shared) (H:Hp),RoomX k (A.deeper (envOfC x (defScope st) s.heap.objs.size f cdv))->A.handled=some (.ref y)->PSs (cxX P w K mg base N x (defScope st) f cdv A outer s H) (defBody st) (tS K O (false,fun _ _=>True) (g y)))
  (hO:∀ i∈O,ps.length<=i:=by decide) {n m:Nat} (hN:N.length=n:=by rfl) (hP:ps.length=m:=by rfl):DnW P w K mg base (k + 1) x ps (fun y=>spD K m (gDef n (g y))):=by
 subst hN hP
 obtain ⟨f,fd,F,m,b⟩:=F
 have kp:=F.kp
 obtain ⟨oc,od,kV,doc,pm,an,cdv,ct,osl,rfl,lk,hcd⟩:=F.ex
 refine ⟨f,_,zlZ lk hcd S (fun y vs H Q E h=>h.1) (fun y A outer s H vs Q E hr hy h=>⟨_,body y f cdv A outer s H hr hy,?_⟩),m,kp,b⟩
 obtain ⟨hn,A',ds,d,al,hd,e,q⟩:=h
 obtain ⟨r,e1,e2⟩:=bind1 e
 refine ⟨H,[],A',_,r,Rel.start al hd (fun i hi=>by have:=hO i hi; rw [<- hd.len,hn]; exact this),Fx.start al,e1,?_⟩
 cases r with
 | nx δ=>cases e2; exact fun U σ H' R F'=>q .non H' F'.same .non
 | rt d=>cases e2; exact ⟨fun v H' h=>by unfold RetR at h; rw [if_neg Bool.false_ne_true] at h; exact q v H' h.1 h.2,fun _ _ _ _=>trivial⟩
 | bk _=>cases e2
 | ct _=>cases e2
end
set_option tactic.hygienic true in
theorem ziE {X:Cx} {O:List Nat} {y:Addr} {k kk n:Nat} {ps:List Str} {G:Addr->List D->Option D} {x:Str} {p pos:Pos} {e:Expr} {es:List Expr} {gr:DS->Option (List D)} (F:DnW X.prog X.w X.K X.mg X.base k x ps (fun y=>spD X.K n (G y))) (hr:RoomX kk X.A) (hk:k<=kk) (hy:X.A.handled=some (.ref y))
  (ha:PA X (e :: es) (tAs X.K O gr)) (hg:Gl X x:=by rfl) (hdb:(x == ("__debug__":Str))=false:=by decide) (he:starEach (e :: es) X.env=(false,eval e X.env) :: starEach es X.env:=by rfl) (hpl:(backTo pos (starEach es X.env)).any (·.1)=false:=by rfl):
  PE X (.Call (.Name x p) (e :: es) [] pos) (tE X.K O (gCall (G y) n gr)):=by
 obtain ⟨f,fd,F,hm,kp,hb⟩:=F
 rintro pins s σ H Q I ⟨U,A0,δ,d,R,ed,q⟩
 obtain ⟨ds,e1,e2⟩:=bind1 ed
 split at e2
 rotate_left
 ·cases e2
 rename_i hn
 refine wpAny_Call_Name_kw (zcG I hg hm ?_ hdb)
 refine callWith_K (h₀:=X.base) I.ok.mod.kin kp (thn (ha pos pins s σ H (fun vs H1=>spD X.K n (G y) vs H1 Q E0) I ⟨U,A0,δ,ds,R,e1,fun vs H' s h=>⟨by rw [h.len]; exact hn,U ++ A0,ds,d,(R.same s).al,h,e2,fun v H2 s2 h2=>q v H2 (s.trans s2) h2⟩⟩) fun us s1 ⟨vs,H1,I1,r,q⟩=>⟨I1.kIn,?_⟩) he hpl
 have hlen:us.length=ps.length:=by rw [<- r.length]; exact F.len _ _ _ _ _ q
 refine wpAny_call (codeAny_mono (F.run y X.A X.stack s1 H1 ⟨us,[]⟩ us vs _ _ (hr.mono hk) hy I1.env0 (by have:=hb s1 us I1.kIn (by rw [List.append_nil]; exact hlen); rwa [List.append_nil] at this) r q) fun rr s' hq=>?_)
 cases rr with
 | error v=>exact False.elim hq
 | ok fl=>
   cases fl with
   | ret u=>exact I1.after hq
   | next=>exact False.elim hq
   | brk=>exact False.elim hq
   | cont=>exact False.elim hq
noncomputable def handOf (cs:List Str) (f:Str->D):Str->Option D:=fun c=>if c∈cs then some (f c) else none
theorem zcA {cs:List Str} {f:Str->D} {c:Str} {d:D} (h:handOf cs f c=some d):c∈cs /\ d=f c:=by
 unfold handOf at h
 split at h
 ·cases h; exact ⟨by assumption,rfl⟩
 ·cases h
theorem zgn {cs:List Str} {f:Str->D} {c:Str} {d:D} (h:handOf cs f c=some d):c∈cs:=(zcA h).1
theorem zdQ {x:Addr} {j:Nat} {c:Str} {g:DS->Option (List D)} {δ:DS} (e:(δ[j]?).join=some (exD x c)):gRange1X x j g δ=gRange1 g δ:=by
 unfold gRange1X
 rw [e]
 exact if_pos rfl
theorem zjj {gi gi':DS->Option (List D)} {k:Nat} {ix:List Nat} {gt:D->DS->Option DS} {gc:DS->Option Bool} {ge:DS->Option D} {δ:DS} (h:gi δ=gi' δ):gCompL gi k ix gt gc ge δ=gCompL gi' k ix gt gc ge δ:=by unfold gCompL; rw [h]
theorem zlA {g g':DS->Option (List D)} {i:Nat} {δ:DS} (h:g δ=g' δ):gSet i (gLst g) δ=gSet i (gLst g') δ:=by unfold gSet gLst; rw [h]
theorem zlt {a a' b:DS->Option Res} {δ:DS} (h:a δ=a' δ):gSeq a b δ=gSeq a' b δ:=by unfold gSeq; rw [h]
noncomputable def ClTs (K:Frag) (mg:Str->Option Value) (cs TS:List Str):Prop:=∀ T∈TS,∃ C,mg T=some (.ref C) /\ ClT K cs T (.ref C)
noncomputable def ClEs (K:Frag) (mg:Str->Option Value) (L:Addr) (cs:List Str):Prop:=∀ c∈cs,∃ C,nsIn K mainGlobals c=some (some (.ref C)) /\ mg c=some (.ref C) /\ exmOne K (.ref C) (.ref L)=some true
theorem zaf {X:Cx} {O:List Nat} {e:Expr} {ga:DS->Option D} {pos p p2:Pos} {T:Str} (cs TS:List Str) (CT:ClTs X.K X.mg cs TS) (hTS:T∈TS) (hB:X.mg "isinstance"=none) (ha:PE X e (tSh X.K O ga)) (hgT:Gl X T:=by rfl) (hdT:(T == ("__debug__":Str))=false:=by decide) (hg:Gl X "isinstance":=by rfl)
  (he:starEach [e,.Name T p2] X.env=(false,eval e X.env) :: starEach [.Name T p2] X.env:=by rfl) (he2:starEach [.Name T p2] X.env=(false,eval (.Name T p2) X.env) :: starEach [] X.env:=by rfl) (hpl:(backTo pos (starEach [.Name T p2] X.env)).any (·.1)=false:=by rfl):
  PE X (.Call (.Name "isinstance" p) [e,.Name T p2] [] pos) (tE X.K O (gIsiX cs T ga)):=by
 obtain ⟨C,m,k⟩:=CT T hTS
 exact zgL cs hB ha (zl5 (v:=.ref C) ⟨_,m,rfl⟩ hgT hdT) (fun u r=>r) k hg he he2 hpl
noncomputable def isCls:Option Obj->Bool
 | some ⟨_,_,.cls _,_⟩=>true
 | _=>false
noncomputable def xclsB (K:Frag) (C:Addr):Bool:=isCls (K.lookup C) && subIn K (.ref C) (.type "object") == some true && subIn K (.ref C) (.type "BaseException") == some true && findIn K (.ref C) "__class__" == some (some (.builtin "object.__class__")) &&
 findIn K (.ref C) "__getattribute__" == some (some (.builtin "BaseException.__getattribute__")) && findIn K (.ref C) "__getattr__" == some none
theorem zkU {K:Frag} {C:Addr} (q:xclsB K C=true):XCls K C:=by
 unfold xclsB at q
 simp only [Bool.and_eq_true,beq_iff_eq] at q
 obtain ⟨⟨⟨⟨⟨a,b⟩,c⟩,d⟩,e⟩,f⟩:=q
 refine ⟨?_,b,c,d,e,f⟩
 unfold isCls at a
 split at a
 ·exact ⟨_,_,_,_,by assumption⟩
 ·cases a
noncomputable def refOf:Option (Option Value)->Option Addr
 | some (some (.ref C))=>some C
 | _=>none
theorem zdg {v:Option (Option Value)} {C:Addr} (h:refOf v=some C):v=some (some (.ref C)):=by
 unfold refOf at h
 split at h
 ·cases h; rfl
 ·cases h
noncomputable def clsB (K:Frag) (L:Addr) (cs TS:List Str):Bool:=(TS.all fun T=>(refOf (nsIn K mainGlobals T)).isSome) && cs.all fun c=>match refOf (nsIn K mainGlobals c) with
 | some C=>xclsB K C && exmOne K (.ref C) (.ref L) == some true && kitOne K (.ref C) (.type "ValueError") == some true && TS.all fun T=>match refOf (nsIn K mainGlobals T) with
   | some CT=>kitOne K (.ref C) (.ref CT) == some (isX c T)
   | none=>false
 | none=>false
section
variable {K:Frag} {L:Addr} {cs TS:List Str} {c:Str} {h:Heap} {mg:Str->Option Value}
set_option tactic.hygienic true in
theorem zdE (q:clsB K L cs TS=true) (hc:c∈cs):∃ C,nsIn K mainGlobals c=some (some (.ref C)) /\ XCls K C /\ exmOne K (.ref C) (.ref L)=some true /\ kitOne K (.ref C) (.type "ValueError")=some true /\
  ∀ T∈TS,∀ CT,nsIn K mainGlobals T=some (some (.ref CT))->kitOne K (.ref C) (.ref CT)=some (isX c T):=by
 unfold clsB at q
 rw [Bool.and_eq_true] at q
 have q1:=List.all_eq_true.mp q.2 c hc
 split at q1
 ·rename_i C hC
  simp only [Bool.and_eq_true,beq_iff_eq] at q1
  obtain ⟨⟨⟨a,b⟩,d⟩,e⟩:=q1
  refine ⟨C,zdg hC,zkU a,b,d,fun T hT CT hCT=>?_⟩
  have e1:=List.all_eq_true.mp e T hT
  rw [hCT] at e1
  exact beq_iff_eq.mp e1
 ·cases q1
theorem zkm (X:K.In h) (G:h.Ns mainGlobals mg) (q:clsB K L cs TS=true):ClTs K mg cs TS:=fun T hT=>by
 have q0:=q
 unfold clsB at q0
 rw [Bool.and_eq_true] at q0
 have q1:=List.all_eq_true.mp q0.1 T hT
 obtain ⟨CT,hCT⟩:=Option.isSome_iff_exists.mp q1
 have hn:=zdg hCT
 refine ⟨CT,mg_of X G hn,fun c hc C hC=>?_⟩
 obtain ⟨C',h1,h2,_,_,h5⟩:=zdE q hc
 rw [hC] at h1
 cases h1
 exact ⟨h2,h5 T hT CT hn⟩
theorem zle (q:clsB K L cs TS=true):ClT K cs "ValueError" (.type "ValueError"):=fun c hc C hC=>by
 obtain ⟨C',h1,h2,_,h4,_⟩:=zdE q hc
 rw [hC] at h1
 cases h1
 refine ⟨h2,h4.trans ?_⟩
 unfold isX
 simp
theorem zld (X:K.In h) (G:h.Ns mainGlobals mg) (q:clsB K L cs TS=true):ClEs K mg L cs:=fun c hc=>by
 obtain ⟨C,h1,_,h3,_⟩:=zdE q hc
 exact ⟨C,h1,mg_of X G h1,h3⟩
theorem zhU (X:K.In h):(offC K).In h:=fun b o e=>by
 rw [zbm] at e
 split at e
 ·exact X b o e
 ·cases e
end
theorem zir {es:List Expr} {p:Pos} {t:Option Expr} {l:Nat} {env:Env}:swapsWith (.List es p) t l env=pure false:=rfl
noncomputable def strsE:List Expr->Option (List Str)
 | []=>some []
 | .Constant (.str n) _ _ :: es=>(strsE es).map (n :: ·)
 | _=>none
noncomputable def gStrs (ns:List Str):DS->Option (List D):=fun _=>some (ns.map .str)
set_option tactic.hygienic true in
theorem zdC {X:Cx} {O:List Nat}:∀ {es:List Expr} {ns:List Str},strsE es=some ns->PA X es (tAs X.K O (gStrs ns))
 | [],ns,h=>by
   cases h
   exact zc
 | e :: es,ns,h=>by
   unfold strsE at h
   split at h
   ·cases ‹_ :: _=[]›
   ·rename_i n k p es' he
    cases he
    cases q:strsE es with
    | none=>rw [q] at h; cases h
    | some ms=>
      rw [q] at h
      cases h
      exact za (zaW zaI) (zdC q) rfl
   ·cases h
theorem zmU:bootBuiltins "ValueError"=some (.type "ValueError"):=by decide +kernel
noncomputable abbrev VE:List Value:=[.type "ValueError",.type "Exception",.type "BaseException",.type "object"]
end L2
namespace L2
open PySem PySem.Spec PySem.W PyProof.Rows
noncomputable def gOutR:Res->Option D
 | .rt d=>some d
 | _=>none
noncomputable def gDefR (n:Nat) (g:DS->Option Res):List D->Option D:=fun ds=>(g (ds.map some ++ List.replicate (n - ds.length) none)).bind gOutR
noncomputable def spRN (K:Frag) (mg:Str->Option Value) (n:Nat) (G:List D->Option D):Sp:=fun vs H Q E=>vs.length=n /\ ∃ A ds d,Ls A H /\ HDs K (wo H A) vs ds /\ G ds=some d /\
 (∀ v H',RetR K true H A v d H'->Q v H') /\ ∀ c H',d=rxD c->Same H H'->xkOf mg E c H'
section
variable {P:Program} {w:World} {K:Frag} {mg:Str->Option Value} {base:Heap} {N ps:List Str} {x:Str} {st:Stmt} {k:Nat}
theorem zjJ (O:List Nat) (g:DS->Option Res) (F:Df K mg x st ps) (S:FnScope N ps (defScope st))
  (body:∀ (f:Addr) (cdv:Value) (A:Around) (outer:List Env) (s:Shared) (H:Hp) (E:XK),Room k (A.deeper (envOfC x (defScope st) s.heap.objs.size f cdv))->PSs (cxOf (CXr P w) P w K mg base N x (defScope st) f cdv A outer s H E) (defBody st) (tS K O (true,xkOf mg E) g))
  (hO:∀ i∈O,ps.length<=i:=by decide) {n m:Nat} (hN:N.length=n:=by rfl) (hP:ps.length=m:=by rfl):DnR P w K mg base (k + 1) x ps (spRN K mg m (gDefR n g)):=by
 subst hN hP
 refine F.okR S (fun vs H Q E h=>h.1) (fun f cdv A outer s H vs Q E hr h=>⟨_,body f cdv A outer s H E hr,?_⟩)
 obtain ⟨hn,A',ds,d,al,hd,e,q,qx⟩:=h
 obtain ⟨r,e1,e2⟩:=bind1 e
 refine ⟨H,[],A',_,r,Rel.start al hd (fun i hi=>by have:=hO i hi; rw [<- hd.len,hn]; exact this),Fx.start al,e1,?_⟩
 cases r with
 | rt d=>cases e2; exact ⟨fun v H' h=>q v H' h,fun c H' e s=>qx c H' e s⟩
 | _=>cases e2
end
noncomputable def setRN (i:Nat) (δ:DS) (d:D):Option Res:=match isRx d with
 | some _=>some (.rt d)
 | none=>(match d with
   | .list ds=>some (.nx (δ.set i (some (.list ds))))
   | _=>none)
noncomputable def gSetRN (i:Nat) (g:DS->Option D):DS->Option Res:=fun δ=>(g δ).bind (setRN i δ)
section
variable {X:Cx} {O:List Nat} {E:XK} {k kk n i:Nat} {x:Str} {ps:List Str} {p pos:Pos} {e:Expr} {es:List Expr} {gr:DS->Option (List D)} {G:List D->Option D} {st:Stmt} {b:Bool}
theorem zgM (F:DnR X.prog X.w X.K X.mg X.base k x ps (spRN X.K X.mg n G)) (hr:Room kk X.A) (hk:k<=kk) (hx:Passes (CXr X.prog X.w) X E) (ha:PA X (e :: es) (tAs X.K O gr)) (hg:Gl X x:=by rfl)
  (hdb:(x == ("__debug__":Str))=false:=by decide) (he:starEach (e :: es) X.env=(false,eval e X.env) :: starEach es X.env:=by rfl) (hpl:(backTo pos (starEach es X.env)).any (·.1)=false:=by rfl):
  PE X (.Call (.Name x p) (e :: es) [] pos) (tCall (spRN X.K X.mg n G) [] E (tAs X.K O gr)):=by
 obtain ⟨f,fd,F,m,kp,b⟩:=F
 exact zgS F (hr.mono hk) hg m kp b .nil hx ha hdb he hpl
set_option tactic.hygienic true in
theorem zjC (h:PS X st (tAsg (tCall (spRN X.K X.mg n G) [] E (tAs X.K O gr)) (gName i))) (hi:i∈O:=by decide):PS X st (tS X.K O (b,xkOf X.mg E) (gSetRN i (gCall G n gr))):=h.mono<|by
 rintro D σ H ⟨H0,U,A0,δ,r,R,F,ed,P⟩
 obtain ⟨d,e1,e2⟩:=bind1 ed
 obtain ⟨ds,e3,e4⟩:=bind1 e1
 split at e4
 rotate_left
 ·cases e4
 rename_i hn
 refine ⟨U,A0,δ,ds,R,e3,fun vs H1 s1 h1=>?_⟩
 show spRN X.K X.mg n G (vs ++ []) H1 _ E
 rw [List.append_nil]
 refine ⟨by rw [h1.len]; exact hn,U ++ A0,ds,d,(R.same s1).al,h1,e4,fun v H2 hv=>?_,fun c H2 hd s2=>?_⟩
 ·unfold RetR at hv
  rw [if_pos rfl] at hv
  obtain ⟨l,o,rfl,s2,hr,ho,how⟩:=hv
  cases how with
  | @lst ys ds' q=>
    have e5:some (Res.nx (δ.set i (some (.list ds'))))=some r:=e2
    cases e5
    exact P (l :: U) _ H2 (R.setN (s1.trans s2) (s1.free hr) ho q hi) (F.more (s1.trans s2) (s1.free hr))
  | dct k q=>
    unfold setRN at e2
    split at e2
    ·rename_i c hx
     have hd:=zew hx
     cases hd
     exact (zdB k fun _ z=>nomatch z).elim
    ·cases e2
 ·subst hd
  have e5:some (Res.rt (rxD c))=some r:=e2
  cases e5
  exact P.2 c H2 rfl (F.same.trans (s1.trans s2))
end
theorem zi9 {W:List D->Option D} {i:Nat} {δ:DS} {x d:D} (e:gVar i δ=some x) (h:W [x]=some d):gRet (gLst (gLstN (gConsA (gCall W 1 (gConsA (gVar i) gNilA)) gNilA))) δ=some (.rt (.list [d])):=by
 have e2:gCall W 1 (gConsA (gVar i) gNilA) δ=some d:=by
  unfold gCall gConsA gNilA
  rw [e]
  exact h
 generalize gCall W 1 (gConsA (gVar i) gNilA)=g at e2 ⊢
 unfold gRet gLst gLstN gConsA
 rw [e2]; rfl
end L2
namespace Q1
end Q1
namespace Q1
noncomputable abbrev Qz:Int×Int:=(0,1)
noncomputable def at0 (l:List (Int×Int)) (k:Nat):Int×Int:=l.getD k Qz
end Q1
namespace Q1
end Q1
namespace Q1
end Q1
namespace MyLaw
open PySem L2 Q1
noncomputable abbrev bt (x:Int):Nat:=Builtin.Int.intBits x
theorem zjl {m:Nat} {x:Int} (h:x.natAbs < 2 ^ m):bt x<=m:=intBits_le_iff.mpr h
theorem ziG {m n:Nat} {x:Int} (h:bt x<=m) (h2:m<=n):bt x<=n:=Nat.le_trans h h2
theorem ze5 {a b:Int} (h:IntMulOk a b):dMulI (.int a) (.int b)=some (.int (a * b)):=zfx h
theorem zbH {a b:Int} (h:0 < b):dMod (.int a) (.int b)=some (.int (a % b)):=by
 rw [<- Int.fmod_eq_emod_of_nonneg _ (Int.le_of_lt h)]
 exact zfx (C:=fun _ j=>j≠0) (by omega)
theorem ziD {a b:Int} (h:0 < b) (hb:bt b<=9000):dDiv (.int a) (.int b)=some (.int (a / b)):=by
 rw [<- Int.fdiv_eq_ediv_of_nonneg _ (Int.le_of_lt h)]
 exact zfx (C:=CDivS) ⟨by omega,zil hb⟩
theorem zmJ {a:Int} {k:Nat} (h:a.natAbs < 2 ^ 64) (hk:k<=1000000):dPow (.int a) (.int k)=some (.int (a ^ k)):=by
 have:=zfx (C:=CPow) (g:=fun i j=>.int (i ^ j.toNat)) (a:=a) (b:=k) ⟨by omega,by omega,h⟩
 simpa using this
noncomputable def Gets {β:Type} (x:Option β) (P:β->Prop):Prop:=∃ d,x=some d /\ P d
theorem z5 {β:Type} {x:Option β} {d:β} (h:Gets x fun y=>y=d):x=some d:=by
 obtain ⟨y,e,rfl⟩:=h; exact e
theorem Gets.mk {β:Type} {x:Option β} {P:β->Prop} {d:β} (e:x=some d) (h:P d):Gets x P:=⟨d,e,h⟩
theorem zcf {a b:DS->Option Res} {δ δ':DS} (h:a δ=some (.nx δ')):gSeq a b δ=b δ':=by
 unfold gSeq; rw [h]; rfl
theorem zhz {a b:DS->Option Res} {δ:DS} {d:D} (h:a δ=some (.rt d)):gSeq a b δ=some (.rt d):=by
 unfold gSeq; rw [h]; rfl
theorem zgH {c:DS->Option Bool} {b:DS->Option Res} (W:Nat->DS->Prop) (Z:DS->Prop) (m:Nat) {δ:DS} (h:W m δ)
  (hs:∀ m δ,W m δ->(c δ=some false /\ Z δ) \/ (c δ=some true /\ ∃ δ' m',b δ=some (.nx δ') /\ m' < m /\ W m' δ')):∃ δ',gWhile c b δ=some (.nx δ') /\ Z δ':=by
 obtain ⟨q,h1,δ',rfl,h2⟩:=zhH W (fun _ q=>∃ δ',q=.nx δ' /\ Z δ') m δ h (fun m δ hW=>by
  rcases hs m δ hW with ⟨a,z⟩ | ⟨a,δ',m',e,l,w⟩
  ·exact .inl ⟨a,δ,rfl,z⟩
  ·exact .inr ⟨a,.inl ⟨δ',m',.inl e,l,w,fun q hq=>hq⟩⟩)
 exact ⟨δ',h1,h2⟩
theorem zfR {t:D->DS->Option DS} {b:DS->Option Res} (W:Nat->DS->Prop):∀ (ds:List D) (k:Nat) {δ:DS},W k δ->(∀ i d δ,ds[i]?=some d->W (k + i) δ->∃ δ1 δ',t d δ=some δ1 /\ b δ1=some (.nx δ') /\ W (k + i + 1) δ')->
  ∃ δ',forD t b ds δ=some (.nx δ') /\ W (k + ds.length) δ'
 | [],k,δ,h,_=>⟨δ,rfl,h⟩
 | d :: ds,k,δ,h,hs=>by
   obtain ⟨δ1,δ',e1,e2,h'⟩:=hs 0 d δ rfl h
   obtain ⟨δ2,e3,h2⟩:=zfR W ds (k + 1) h' (fun i d δ e w=>by
    have:=hs (i + 1) d δ (by simpa using e) (by rw [show k + (i + 1)=k + 1 + i by omega]; exact w)
    rw [show k + (i + 1) + 1=k + 1 + i + 1 by omega] at this
    exact this)
   refine ⟨δ2,?_,by rw [List.length_cons,show k + (ds.length + 1)=k + 1 + ds.length by omega]; exact h2⟩
   rw [forD,e1,Option.bind_some,e2,Option.bind_some]
   exact e3
theorem zeV {α:Type} {t:D->DS->Option DS} {b:DS->Option Res} (enc:α->D) (W:Nat->DS->Prop) (xs:List α) {δ:DS} (h:W 0 δ)
  (hs:∀ i x δ,xs[i]?=some x->W i δ->∃ δ1 δ',t (enc x) δ=some δ1 /\ b δ1=some (.nx δ') /\ W (i + 1) δ'):∃ δ',forD t b (xs.map enc) δ=some (.nx δ') /\ W xs.length δ':=by
 obtain ⟨δ',e,w⟩:=zfR (t:=t) (b:=b) W (xs.map enc) 0 h (fun i d δ e w=>by
  rw [List.getElem?_map] at e
  cases ex:xs[i]? with
  | none=>rw [ex] at e; cases e
  | some x=>
    rw [ex] at e; cases e
    rw [Nat.zero_add] at w ⊢
    exact hs i x δ ex w)
 rw [Nat.zero_add,List.length_map] at w
 exact ⟨δ',e,w⟩
theorem zjr {t:D->DS->Option DS} {b:DS->Option Res} {lo:Int} {n:Nat} (W:Nat->DS->Prop) {δ:DS} (h:W 0 δ)
  (hs:∀ i δ,i < n->W i δ->∃ δ1 δ',t (.int (lo + i)) δ=some δ1 /\ b δ1=some (.nx δ') /\ W (i + 1) δ'):∃ δ',forD t b (rangeD lo n) δ=some (.nx δ') /\ W n δ':=by
 obtain ⟨δ',e,w⟩:=zeV (t:=t) (b:=b) (fun k:Nat=>PyData.int (lo + k)) W (List.range n) h (fun i x δ e w=>by
  have hi:=(List.getElem?_eq_some_iff.mp e).1
  rw [List.length_range] at hi
  rw [List.getElem?_range hi] at e
  cases e
  exact hs i δ hi w)
 rw [List.length_range] at w
 exact ⟨δ',e,w⟩
theorem zeD {c:DS->Option Bool} {b rest:DS->Option Res} {β:Type} {f:Res->Option β} {R:β->Prop} {δ:DS} (W:Nat->DS->Prop) (Z:DS->Prop) (m:Nat) (h:W m δ)
  (hs:∀ m δ,W m δ->(c δ=some false /\ Z δ) \/ (c δ=some true /\ ∃ δ' m',b δ=some (.nx δ') /\ m' < m /\ W m' δ')) (k:∀ δ',Z δ'->Gets ((rest δ').bind f) R):Gets ((gSeq (gWhile c b) rest δ).bind f) R:=by
 obtain ⟨δ',h1,h2⟩:=zgH W Z m h hs
 rw [zcf h1]
 exact k δ' h2
theorem zdN {α:Type} {t:D->DS->Option DS} {gi:DS->Option (List D)} {b rest:DS->Option Res} {β:Type} {f:Res->Option β} {R:β->Prop} {δ:DS} (enc:α->D) (xs:List α) (W:Nat->DS->Prop) (hi:gi δ=some (xs.map enc)) (h:W 0 δ)
  (hs:∀ i x δ,xs[i]?=some x->W i δ->∃ δ1 δ',t (enc x) δ=some δ1 /\ b δ1=some (.nx δ') /\ W (i + 1) δ') (k:∀ δ',W xs.length δ'->Gets ((rest δ').bind f) R):Gets ((gSeq (gFor gi t b) rest δ).bind f) R:=by
 obtain ⟨δ',h1,h2⟩:=zeV (t:=t) (b:=b) enc W xs h hs
 rw [zcf (δ':=δ') (by unfold gFor; rw [hi]; exact h1)]
 exact k δ' h2
theorem zco {t:D->DS->Option DS} {gi:DS->Option (List D)} {b rest:DS->Option Res} {β:Type} {f:Res->Option β} {R:β->Prop} {δ:DS} (lo:Int) (n:Nat) (W:Nat->DS->Prop) (hi:gi δ=some (rangeD lo n)) (h:W 0 δ)
  (hs:∀ i δ,i < n->W i δ->∃ δ1 δ',t (.int (lo + i)) δ=some δ1 /\ b δ1=some (.nx δ') /\ W (i + 1) δ') (k:∀ δ',W n δ'->Gets ((rest δ').bind f) R):Gets ((gSeq (gFor gi t b) rest δ).bind f) R:=by
 obtain ⟨δ',h1,h2⟩:=zjr (t:=t) (b:=b) W h hs
 rw [zcf (δ':=δ') (by unfold gFor; rw [hi]; exact h1)]
 exact k δ' h2
theorem zH {a rest:DS->Option Res} {β:Type} {f:Res->Option β} {R:β->Prop} {δ:DS} (δ':DS) (h:a δ=some (.nx δ')) (k:Gets ((rest δ').bind f) R):Gets ((gSeq a rest δ).bind f) R:=by
 rw [zcf h]; exact k
theorem zc4 {c:DS->Option Bool} {a rest:DS->Option Res} {β:Type} {f:Res->Option β} {R:β->Prop} {δ:DS} (h:c δ=some false) (k:Gets ((rest δ).bind f) R):Gets ((gSeq (gIf c a gSkip) rest δ).bind f) R:=by
 rw [zcf (δ':=δ) (by unfold gIf; rw [h]; rfl)]; exact k
theorem zce {c:DS->Option Bool} {a b rest:DS->Option Res} {β:Type} {f:Res->Option β} {R:β->Prop} {δ:DS} (x:Bool) (h:c δ=some x) (k1:x=true->Gets ((gSeq a rest δ).bind f) R) (k2:x=false->Gets ((gSeq b rest δ).bind f) R):Gets ((gSeq (gIf c a b) rest δ).bind f) R:=by
 have e:gIf c a b δ=if x=true then a δ else b δ:=by unfold gIf; rw [h]; rfl
 cases x with
 | true=>rw [if_pos rfl] at e; have:=k1 rfl; unfold gSeq at this ⊢; rw [e]; exact this
 | false=>rw [if_neg Bool.false_ne_true] at e; have:=k2 rfl; unfold gSeq at this ⊢; rw [e]; exact this
theorem zcN {g:DS->Option D} {rest:DS->Option Res} {β:Type} {f:Res->Option β} {R:β->Prop} {δ:DS} (d:D) (h:g δ=some d) (k:Gets (f (.rt d)) R):Gets ((gSeq (gRet g) rest δ).bind f) R:=by
 rw [zhz (d:=d) (by unfold gRet; rw [h]; rfl)]; exact k
theorem ret {g:DS->Option D} {β:Type} {f:Res->Option β} {R:β->Prop} {δ:DS} (d:D) (h:g δ=some d) (k:Gets (f (.rt d)) R):Gets ((gRet g δ).bind f) R:=by
 unfold gRet; rw [h]; exact k
theorem zai {a b:DS->Option Res} {δ:DS} {r:Option Res} (δ':DS) (h:a δ=some (.nx δ')) (k:b δ'=r):gSeq a b δ=r:=(zcf h).trans k
theorem zlo {c:DS->Option Bool} {a:DS->Option Res} {δ:DS} (h:c δ=some false):gIf c a gSkip δ=some (.nx δ):=by unfold gIf; rw [h]; rfl
theorem zhc {α β:Type} {f:D->Option D} (enc:α->D) (enc':β->D) (h:α->β):∀ (l:List α),(∀ a∈l,f (enc a)=some (enc' (h a)))->mapD f (l.map enc)=some ((l.map h).map enc')
 | [],_=>rfl
 | a :: l,hf=>by
   rw [List.map_cons,mapD,hf a List.mem_cons_self,Option.bind_some,zhc enc enc' h l fun b hb=>hf b (List.mem_cons_of_mem _ hb)]
   rfl
theorem zcS {α β:Type} (enc:α->D) (enc':β->D) (h:α->β) {gi:DS->Option (List D)} {ix:List Nat} {ge:DS->Option D} {δ:DS} (l:List α) (hi:gi δ=some (l.map enc)) (hn:l.length<=100000)
  (hf:∀ a∈l,ge (some (enc a) :: captD ix δ)=some (enc' (h a))):gComp gi ix ge δ=some ((l.map h).map enc'):=by
 unfold gComp
 rw [hi,Option.bind_some,if_pos (by rw [List.length_map]; exact hn)]
 exact zhc enc enc' h l hf
theorem zjX (a b:Int):dEq (.int a) (.int b)=some (.bool (decide (a=b))):=rfl
theorem zma {a b:D} {c:Bool} (h:dEq a b=some (.bool c)):dNe a b=some (.bool (!c)):=by unfold dNe; rw [h]; rfl
theorem zcX {g:DS->Option (List D)} {δ:DS} {n:Nat} (h:g δ=some [.int (n:Nat)]) (hn:n<=100000):gRange1 g δ=some (rangeD 0 n):=by
 unfold gRange1
 rw [h,Option.bind_some]
 show (if -(2 ^ 62)<=((n:Nat):Int) /\ ((n:Nat):Int) < 2 ^ 62 then some (rangeD 0 ((n:Nat):Int).toNat) else none)=_
 rw [Int.toNat_natCast,if_pos ⟨by omega,by omega⟩]
theorem zii {g:DS->Option (List D)} {δ:DS} {a b:Int} (h:g δ=some [.int a,.int b]) (h1: -100000<=a) (h2:a<=100000) (h3: -100000<=b) (h4:b<=100000):gRange2 g δ=some (rangeD a (b - a).toNat):=by
 unfold gRange2
 rw [h,Option.bind_some]
 show (if -(2 ^ 62)<=a /\ a < 2 ^ 62 /\ -(2 ^ 62)<=b /\ b < 2 ^ 62 then some (rangeD a (b - a).toNat) else none)=_
 rw [if_pos ⟨by omega,by omega,by omega,by omega⟩]
theorem zao {G:List D->Option D} {n:Nat} {g:DS->Option (List D)} {δ:DS} {ds:List D} {r:Option D} (h:g δ=some ds) (hn:ds.length=n) (hG:G ds=r):gCall G n g δ=r:=by
 unfold gCall; rw [h,Option.bind_some,if_pos hn]; exact hG
theorem zS {G:List D->Option (List D)} {n:Nat} {g:DS->Option (List D)} {δ:DS} {ds:List D} {r:Option (List D)} (h:g δ=some ds) (hn:ds.length=n) (hG:G ds=r):gCallN G n g δ=r:=by
 unfold gCallN; rw [h,Option.bind_some,if_pos hn]; exact hG
theorem zO {g:DS->Option (List D)} {δ:DS} {l:List D} (h:g δ=some l):gLst g δ=some (.list l):=by unfold gLst; rw [h]; rfl
theorem zf {a:DS->Option D} {r:DS->Option (List D)} {δ:DS} {x:D} {xs:List D} (h:a δ=some x) (h2:r δ=some xs):gConsA a r δ=some (x :: xs):=by unfold gConsA; rw [h,h2]; rfl
theorem zQ {i:Nat} {g:DS->Option D} {δ:DS} {d:D} (h:g δ=some d):gSet i g δ=some (.nx (δ.set i (some d))):=by unfold gSet; rw [h]; rfl
theorem zgJ {i:Nat} {g:DS->Option (List D)} {δ:DS} {d:List D} (h:g δ=some d):gSetN i g δ=some (.nx (δ.set i (some (.list d)))):=by unfold gSetN; rw [h]; rfl
theorem zj0 (l:List D):dLen [.list l]=some (.int l.length):=rfl
theorem zlc (l:List D) (i:Int):dIx (.list l) (.int i)=atI l i:=rfl
theorem zkE {a b:DS->Option Bool} {δ:DS} {r:Option Bool} (h1:a δ=some false) (h2:b δ=r):gOr a b δ=r:=by unfold gOr; rw [h1]; exact h2
theorem zml {a b:DS->Option Bool} {δ:DS} {r:Option Bool} (h1:a δ=some true) (h2:b δ=r):gAnd a b δ=r:=by unfold gAnd; rw [h1]; exact h2
theorem zbW {a:DS->Option Bool} {δ:DS} {x:Bool} (h:a δ=some x):gNot a δ=some (!x):=by unfold gNot; rw [h]; rfl
theorem zba {g:DS->Option D} {δ:DS} {b:Bool} (h:g δ=some (.bool b)):gB g δ=some b:=by unfold gB; rw [h]; rfl
theorem zdJ {g:DS->Option D} {δ:DS} {b:Bool} (h:g δ=some (.bool b)):gTru g δ=some b:=by unfold gTru; rw [h]; rfl
theorem zk {f:D->D->Option D} {a b:DS->Option D} {δ:DS} {x y:D} {r:Option D} (h1:a δ=some x) (h2:b δ=some y) (h3:f x y=r):g2 f a b δ=r:=by unfold g2; rw [h1,h2]; exact h3
end MyLaw
namespace MyLaw
open PySem L2 Q1
noncomputable abbrev CSX:List Str:=["TooMany"]
noncomputable abbrev TSX:List Str:=["NoNumber","NoPlan","TooLong","NoText","NoEnd","TooMany","NoRow","NoTelling","NoLot","NotOnly","Only","NoShares","NoDeed","NoName","NoDraw"]
noncomputable abbrev zcD:DS->Option Res:=(gSeq (gSet 2 (g2 dAddV (g2 dIx (gVar 1) (gC (.int (0)))) (g2 dIx (gVar 1) (gC (.int (1))))))
  (gRet (gAndV (gChain dLe dLt (gC (.int (0))) (gVar 2) (gB1 dLen (gConsA (gVar 0) gNilA))) (g2 dIn (g2 dIx (gVar 1) (gC (.int (0)))) (g2 dIx (gVar 0) (gVar 2))))))
noncomputable def zaE:List D->Option D:=gDef 3 zcD
theorem zhu (a0 a1:D):zaE [a0,a1]=(zcD [some a0,some a1,none]).bind gOut:=rfl
noncomputable abbrev zdO:DS->Option Res:=(gRet (gLst (gSS (gLst (g2N dCat (gLst (gB1N dListN (gConsA (gVar 0) gNilA))) (gLst (gComp (gItems (gVar 0)) [] (g2 dAddV (gVar 0) (gC (.int (1)))))))))))
noncomputable def zbi:List D->Option (List D):=gDefN 1 zdO
theorem ziQ (a0:D):zbi [a0]=(zdO [some a0]).bind gOutN:=rfl
noncomputable abbrev zcF:DS->Option Res:=(gSeq (gSetN 1 (gLstN (gConsA (gTupD (gConsA (gC (.int (0))) (gConsA (gC (.int (0))) gNilA))) gNilA)))
  (gSeq (gFor (gEnumS (gVar 0)) (gTupT 2 (gConsT (gName' 2) (gConsT (gName' 3) gNilT)))
   (gExt 1 (gComp (gItems (gLst (gCallN zbi 1 (gConsA (gVar 3) gNilA)))) [2] (gTupD (gConsA (gVar 0) (gConsA (g2 dSub (gVar 1) (gVar 0)) gNilA))))))
  (gRet (gVar 1))))
noncomputable def zaZ:List D->Option (List D):=gDefN 4 zcF
theorem zik (a0:D):zaZ [a0]=(zcF [some a0,none,none,none]).bind gOutN:=rfl
noncomputable abbrev zhn:DS->Option Res:=(gRet (gLst (gCompL (gItems (gLst (gCallN zaZ 1 (gConsA (gVar 0) gNilA)))) 1 [0] (gName' 0) (gNot (gTru (gCall zaE 2 (gConsA (gVar 1) (gConsA (gVar 0) gNilA))))) (gVar 0))))
noncomputable def zdd:List D->Option (List D):=gDefN 1 zhn
theorem zmv (a0:D):zdd [a0]=(zhn [some a0]).bind gOutN:=rfl
noncomputable abbrev zbZ:DS->Option Res:=(gSeq (gSetN 1 (gLstN gNilA))
  (gSeq (gFor (gEnumT (gVar 0)) (gTupT 2 (gConsT (gName' 2) (gConsT (gName' 3) gNilT)))
   (gExt 1 (gComp (gItems (gVar 3)) [2] (gTupD (gConsA (gVar 0) (gConsA (g2 dSub (gVar 1) (gVar 0)) gNilA))))))
  (gRet (gVar 1))))
noncomputable def zaQ:List D->Option (List D):=gDefN 4 zbZ
theorem zgG (a0:D):zaQ [a0]=(zbZ [some a0,none,none,none]).bind gOutN:=rfl
noncomputable abbrev zeZ:DS->Option Res:=(gSeq (gIf (gB (g2 dEq (gVar 1) (gC (.str "b")))) (gRet (gTupD (gConsA (g2 dAddV (g2 dIx (gVar 0) (gC (.int (0)))) (gC (.int (1)))) (gConsA (g2 dIx (gVar 0) (gC (.int (1)))) gNilA)))) gSkip)
  (gRet (gTupD (gConsA (g2 dIx (gVar 0) (gC (.int (0)))) (gConsA (g2 dAddV (g2 dIx (gVar 0) (gC (.int (1)))) (gC (.int (1)))) gNilA)))))
noncomputable def z6:List D->Option D:=gDef 2 zeZ
theorem zif (a0 a1:D):z6 [a0,a1]=(zeZ [some a0,some a1]).bind gOut:=rfl
noncomputable abbrev zbD:DS->Option Res:=(gSeq (gSetD 2 (gDisp1 (gVar 1) (gC (.int (1)))))
  (gSeq (gFor (gItems (gLst (gCallN zaQ 1 (gConsA (gVar 0) gNilA)))) (gName' 3)
   (gSeq (gSet 4 (gDgetD (gVar 2) (gVar 3) (gC (.int (0)))))
  (gFor (gItems (gTupD (gConsA (gCall z6 2 (gConsA (gVar 3) (gConsA (gC (.str "b")) gNilA))) (gConsA (gCall z6 2 (gConsA (gVar 3) (gConsA (gC (.str "g")) gNilA))) gNilA)))) (gName' 5)
   (gSetK 2 (gVar 5) (g2 dAddV (gDgetD (gVar 2) (gVar 5) (gC (.int (0)))) (gVar 4))))))
  (gRet (gVar 2))))
noncomputable def zaw:List D->Option D:=gDef 6 zbD
theorem zeK (a0 a1:D):zaw [a0,a1]=(zbD [some a0,some a1,none,none,none,none]).bind gOut:=rfl
noncomputable abbrev zbj (GR:List D->Option (List D)):DS->Option Res:=(gSeq (gIf (gNot (gTru (gCall zaE 2 (gConsA (gVar 0) (gConsA (gVar 2) gNilA))))) (gRet (gLst (gLstN (gConsA (gVar 1) gNilA)))) gSkip)
  (gSeq (gSetN 3 (gCallN GR 3 (gConsA (gVar 0) (gConsA (g2 dAddV (gVar 1) (gC (.str "b"))) (gConsA (gCall z6 2 (gConsA (gVar 2) (gConsA (gC (.str "b")) gNilA))) gNilA)))))
  (gSeq (gExt 3 (gCallN GR 3 (gConsA (gVar 0) (gConsA (g2 dAddV (gVar 1) (gC (.str "g"))) (gConsA (gCall z6 2 (gConsA (gVar 2) (gConsA (gC (.str "g")) gNilA))) gNilA)))))
  (gRet (gVar 3)))))
noncomputable def zt:Nat->List D->Option (List D)
 | 0=>gDefN 4 (fun _=>none)
 | n + 1=>gDefN 4 (zbj (zt n))
noncomputable def zaM:List D->Option (List D):=zt 26
theorem zbP (n:Nat) (a0 a1 a2:D):zt (n + 1) [a0,a1,a2]=(zbj (zt n) [some a0,some a1,some a2,none]).bind gOutN:=rfl
noncomputable abbrev zcM:DS->Option Res:=(gSeq (gSet 1 (gCall zaw 2 (gConsA (gVar 0) (gConsA (gTupD (gConsA (gC (.int (0))) (gConsA (gC (.int (0))) gNilA))) gNilA))))
  (gSeq (gIf (gB (g2 dGt (gB1 dSum (gConsA (gLst (gComp (gItems (gLst (gCallN zdd 1 (gConsA (gVar 0) gNilA)))) [1] (gDget (gVar 1) (gVar 0)))) gNilA)) (gC (.int (4000))))) (gRaise "TooMany") gSkip)
  (gRet (gLst (gCallN zaM 3 (gConsA (gVar 0) (gConsA (gC (.str "")) (gConsA (gTupD (gConsA (gC (.int (0))) (gConsA (gC (.int (0))) gNilA))) gNilA))))))))
noncomputable def z7:List D->Option D:=gDefR 2 zcM
theorem zgl (a0:D):z7 [a0]=(zcM [some a0,none]).bind gOutR:=rfl
noncomputable abbrev zb7:DS->Option Res:=(gSeq (gIf (gB (g2 dLt (gVar 1) (gB1 dLen (gConsA (gVar 0) gNilA)))) (gRet (g2 dIx (gVar 0) (gVar 1))) gSkip)
  (gRet (gC (.int (0)))))
noncomputable def zP:List D->Option D:=gDef 2 zb7
theorem zf9 (a0 a1:D):zP [a0,a1]=(zb7 [some a0,some a1]).bind gOut:=rfl
noncomputable abbrev zbp:DS->Option Res:=(gSeq (gSetN 3 (gLstN gNilA))
  (gSeq (gFor (gRange1 (gConsA (gVar 2) gNilA)) (gName' 4)
   (gSeq (gApp 3 (g2 dMod (gVar 0) (gVar 1)))
  (gSet 0 (g2 dDiv (gVar 0) (gVar 1)))))
  (gRet (gVar 3))))
noncomputable def zak:List D->Option (List D):=gDefN 5 zbp
theorem zdS (a0 a1 a2:D):zak [a0,a1,a2]=(zbp [some a0,some a1,some a2,none,none]).bind gOutN:=rfl
noncomputable abbrev zbB:DS->Option Res:=(gSeq (gSetN 3 (gLstN gNilA))
  (gSeq (gFor (gRange1 (gConsA (gVar 2) gNilA)) (gName' 4)
   (gSeq (gSet 5 (g2 dMod (g2 dAddV (g2 dAddV (g2 dMulI (g2 dMod (gVar 0) (gC (.int (1000003)))) (gC (.int (48271)))) (g2 dMulI (g2 dMulI (gVar 4) (gVar 4)) (gC (.int (69621))))) (g2 dMulI (gVar 4) (gC (.int (16807))))) (gC (.int (2147483647)))))
  (gApp 3 (g2 dMod (g2 dDiv (g2 dMod (g2 dAddV (g2 dMulI (gVar 5) (gC (.int (39373)))) (gVar 0)) (gC (.int (2147483629)))) (gC (.int (13)))) (gVar 1)))))
  (gRet (gVar 3))))
noncomputable def zaX:List D->Option (List D):=gDefN 6 zbB
theorem zfn (a0 a1 a2:D):zaX [a0,a1,a2]=(zbB [some a0,some a1,some a2,none,none,none]).bind gOutN:=rfl
noncomputable abbrev zb5:DS->Option Res:=(gSeq (gSet 2 (g2 dDiv (gVar 0) (gC (.int (4)))))
  (gSeq (gSet 3 (g2 dAddV (gC (.int (100))) (g2 dMulI (gC (.int (200))) (gB1 dInt (gConsA (g2 dGt (gVar 1) (gC (.int (12)))) gNilA)))))
  (gSeq (gSet 4 (gLst (gCallN zaX 3 (gConsA (gVar 2) (gConsA (gC (.int (3))) (gConsA (gVar 3) gNilA))))))
  (gSeq (gIf (gB (g2 dGe (gB1 dAbs (gConsA (gVar 0) gNilA)) (g2 dPow (gC (.int (10))) (gC (.int (18)))))) (gSet 4 (gLst (gCallN zak 3 (gConsA (gVar 2) (gConsA (gC (.int (3))) (gConsA (gVar 3) gNilA)))))) gSkip)
  (gSeq (gSetN 5 (gLstN (gConsA (gTupD (gConsA (gC (.int (0))) gNilA)) gNilA)))
  (gSeq (gSet 6 (gLst (gLstN (gConsA (gC (.int (0))) (gConsA (gC (.int (1))) gNilA)))))
  (gSeq (gSet 7 (gC (.int (0))))
  (gSeq (gWhile (gAnd (gB (g2 dLt (gB1 dLen (gConsA (gVar 5) gNilA)) (gVar 1))) (gB (g2 dGt (gB1 dLen (gConsA (gVar 6) gNilA)) (gC (.int (0)))))) (gSeq (gSet 8 (gLst (gCompL (gEnumerate (gVar 6)) 2 [4,3,7] (gTupT 2 (gConsT (gName' 0) (gConsT (gName' 1) gNilT))) (gB (g2 dGt (g2 dIx (gVar 2) (g2 dMod (g2 dAddV (gVar 4) (gVar 0)) (gVar 3))) (gC (.int (0))))) (gVar 1))))
  (gSeq (gSet 7 (g2 dAddV (gVar 7) (gB1 dLen (gConsA (gVar 6) gNilA))))
  (gSeq (gIf (gB (g2 dGt (g2 dMod (gVar 0) (gC (.int (4)))) (gC (.int (1))))) (gSet 8 (gLst (gSlL (gVar 6) (gPart (g2 dIx (gVar 4) (g2 dMod (gVar 7) (gVar 3)))) (gPart (gB1 dMax2 (gConsA (gC (.int (0))) (gConsA (g2 dSub (gB1 dLen (gConsA (gVar 6) gNilA)) (g2 dIx (gVar 4) (g2 dMod (g2 dAddV (gVar 7) (gC (.int (1)))) (gVar 3)))) gNilA))))))) gSkip)
  (gSeq (gSet 6 (gLst (gSS (gLst (g2N dCat (gVar 8) (gLst (gComp (gItems (gVar 8)) [] (g2 dAddV (gVar 0) (gC (.int (1)))))))))))
  (gIf (gB (g2 dGt (gB1 dLen (gConsA (gVar 8) gNilA)) (gC (.int (0))))) (gApp 5 (gB1 dTupleOf (gConsA (gVar 8) gNilA))) gSkip))))))
  (gRet (gB1 dTupleOf (gConsA (gVar 5) gNilA)))))))))))
noncomputable def zbb:List D->Option D:=gDef 9 zb5
theorem zgb (a0 a1:D):zbb [a0,a1]=(zb5 [some a0,some a1,none,none,none,none,none,none,none]).bind gOut:=rfl
noncomputable abbrev zb9:DS->Option Res:=(gSeq (gIf (gB (g2 dEq (g2 dMod (g2 dDiv (gVar 0) (gC (.int (7)))) (gC (.int (8)))) (gC (.int (1))))) (gRet (g2 dAddV (gC (.int (1))) (g2 dMod (g2 dDiv (gVar 0) (gC (.int (56)))) (gC (.int (12)))))) gSkip)
  (gRet (g2 dAddV (gC (.int (1))) (g2 dMod (gVar 0) (gC (.int (7)))))))
noncomputable def zbg:List D->Option D:=gDef 1 zb9
theorem zdh (a0:D):zbg [a0]=(zb9 [some a0]).bind gOut:=rfl
noncomputable abbrev zb6:DS->Option Res:=(gSeq (gSetN 1 (gLstN gNilA))
  (gSeq (gSetN 2 (gLstN (gConsA (gC (.str "")) gNilA)))
  (gSeq (gWhile (gB (g2 dGt (gB1 dLen (gConsA (gVar 2) gNilA)) (gC (.int (0))))) (gSeq (gSetPop 3 2)
  (gSeq (gSet 4 (gCount (gVar 3) (gC (.str "b"))))
  (gIf (gAnd (gB (g2 dLt (gB1 dLen (gConsA (gVar 3) gNilA)) (gB1 dLen (gConsA (gVar 0) gNilA)))) (gB (g2 dIn (gVar 4) (g2 dIx (gVar 0) (gB1 dLen (gConsA (gVar 3) gNilA)))))) (gSeq (gApp 2 (g2 dAddV (gVar 3) (gC (.str "g"))))
  (gApp 2 (g2 dAddV (gVar 3) (gC (.str "b"))))) (gApp 1 (gTupD (gConsA (gVar 3) (gConsA (gTupD (gConsA (gVar 4) (gConsA (g2 dSub (gB1 dLen (gConsA (gVar 3) gNilA)) (gVar 4)) gNilA))) gNilA))))))))
  (gRet (gVar 1)))))
noncomputable def zay:List D->Option (List D):=gDefN 5 zb6
theorem zgu (a0:D):zay [a0]=(zb6 [some a0,none,none,none,none]).bind gOutN:=rfl
noncomputable abbrev zb4:DS->Option Res:=(gSeq (gSetD 1 (gDisp1 (gTupD (gConsA (gC (.int (0))) (gConsA (gC (.int (0))) gNilA))) (gC (.int (1)))))
  (gSeq (gFor (gEnumT (gVar 0)) (gTupT 2 (gConsT (gName' 2) (gConsT (gName' 3) gNilT)))
   (gFor (gItems (gVar 3)) (gName' 4)
   (gSeq (gSet 5 (gDget (gVar 1) (gTupD (gConsA (gVar 4) (gConsA (g2 dSub (gVar 2) (gVar 4)) gNilA)))))
  (gFor (gItems (gTupD (gConsA (gTupD (gConsA (g2 dAddV (gVar 4) (gC (.int (1)))) (gConsA (g2 dSub (gVar 2) (gVar 4)) gNilA))) (gConsA (gTupD (gConsA (gVar 4) (gConsA (g2 dAddV (g2 dSub (gVar 2) (gVar 4)) (gC (.int (1)))) gNilA))) gNilA)))) (gName' 6)
   (gSetK 1 (gVar 6) (g2 dAddV (gDgetD (gVar 1) (gVar 6) (gC (.int (0)))) (gVar 5)))))))
  (gRet (gVar 1))))
noncomputable def zar:List D->Option D:=gDef 7 zb4
theorem zgo (a0:D):zar [a0]=(zb4 [some a0,none,none,none,none,none,none]).bind gOut:=rfl
noncomputable abbrev zb8:DS->Option Res:=(gSeq (gSetN 1 (gLstN gNilA))
  (gSeq (gFor (gRange2 (gConsA (gC (.int (1))) (gConsA (g2 dAddV (gB1 dLen (gConsA (gVar 0) gNilA)) (gC (.int (1)))) gNilA))) (gName' 2)
   (gSeq (gSet 3 (gTupD gNilA))
  (gSeq (gIf (gB (g2 dLt (gVar 2) (gB1 dLen (gConsA (gVar 0) gNilA)))) (gSet 3 (g2 dIx (gVar 0) (gVar 2))) gSkip)
  (gSeq (gSet 4 (gLst (gSS (gLst (g2N dCat (gLst (gB1N dListN (gConsA (g2 dIx (gVar 0) (g2 dSub (gVar 2) (gC (.int (1))))) gNilA))) (gLst (gComp (gItems (g2 dIx (gVar 0) (g2 dSub (gVar 2) (gC (.int (1)))))) [] (g2 dAddV (gVar 0) (gC (.int (1)))))))))))
  (gExt 1 (gCompL (gItems (gVar 4)) 1 [2,3] (gName' 0) (gB (g2 dNotIn (gVar 0) (gVar 2))) (gTupD (gConsA (gVar 0) (gConsA (g2 dSub (gVar 1) (gVar 0)) gNilA)))))))))
  (gRet (gVar 1))))
noncomputable def zag:List D->Option (List D):=gDefN 5 zb8
theorem zf7 (a0:D):zag [a0]=(zb8 [some a0,none,none,none,none]).bind gOutN:=rfl
noncomputable abbrev zdf (y:Addr):DS->Option Res:=(gSeq (gSet 1 (gLst (gLstN (gConsA (gIsiX CSX "NoNumber" (gVar 0)) (gConsA (gIsiX CSX "NoPlan" (gVar 0)) (gConsA (gIsiX CSX "TooLong" (gVar 0)) (gConsA (gIsiX CSX "NoText" (gVar 0)) gNilA)))))))
  (gSeq (gSet 1 (gLst (g2N dCat (gVar 1) (gLst (gLstN (gConsA (gIsiX CSX "NoEnd" (gVar 0)) (gConsA (gIsiX CSX "TooMany" (gVar 0)) (gConsA (gIsiX CSX "NoRow" (gVar 0)) (gConsA (gIsiX CSX "NoTelling" (gVar 0)) gNilA)))))))))
  (gSeq (gSet 1 (gLst (g2N dCat (gVar 1) (gLst (gLstN (gConsA (gIsiX CSX "NoLot" (gVar 0)) (gConsA (gIsiX CSX "NotOnly" (gVar 0)) (gConsA (gIsiX CSX "Only" (gVar 0)) (gConsA (gIsiX CSX "NoShares" (gVar 0)) gNilA)))))))))
  (gSeq (gSet 1 (gLst (g2N dCat (gVar 1) (gLst (gLstN (gConsA (gIsiX CSX "NoDeed" (gVar 0)) (gConsA (gIsiX CSX "NoName" (gVar 0)) (gConsA (gIsiX CSX "NoDraw" (gVar 0)) gNilA))))))))
  (gSeq (gSet 2 (gLst (gLstN (gStrs ["NoNumber","NoPlan","TooLong","NoText","NoEnd","TooMany","NoRow","NoTelling","NoLot","NotOnly"]))))
  (gSeq (gSet 2 (gLst (g2N dCat (gVar 2) (gLst (gLstN (gStrs ["Only","NoShares","NoDeed","NoName","NoDraw"]))))))
  (gSeq (gSet 3 (gLst (gCompL (gRange1X y 0 (gConsA (gC (.int (15))) gNilA)) 1 [2,1] (gName' 0) (gTru (g2 dIx (gVar 2) (gVar 0))) (g2 dIx (gVar 1) (gVar 0)))))
  (gSeq (gIf (gOr (gB (g2 dNe (gB1 dLen (gConsA (gVar 3) gNilA)) (gC (.int (1))))) (gNot (gTru (gIsiX CSX "ValueError" (gVar 0))))) (gRet (gC (.str "else"))) gSkip)
  (gRet (g2 dIx (gVar 3) (gC (.int (0)))))))))))))
noncomputable def zaO (y:Addr):List D->Option D:=gDef 4 (zdf y)
theorem zi2 (a:Addr) (c:Str) (R:DS->Option Res) (hc:c∈CSX):(gSeq (gSet 1 (gLst (gLstN (gConsA (gIsiX CSX "NoNumber" (gVar 0)) (gConsA (gIsiX CSX "NoPlan" (gVar 0)) (gConsA (gIsiX CSX "TooLong" (gVar 0)) (gConsA (gIsiX CSX "NoText" (gVar 0)) gNilA)))))))
  (gSeq (gSet 1 (gLst (g2N dCat (gVar 1) (gLst (gLstN (gConsA (gIsiX CSX "NoEnd" (gVar 0)) (gConsA (gIsiX CSX "TooMany" (gVar 0)) (gConsA (gIsiX CSX "NoRow" (gVar 0)) (gConsA (gIsiX CSX "NoTelling" (gVar 0)) gNilA)))))))))
  (gSeq (gSet 1 (gLst (g2N dCat (gVar 1) (gLst (gLstN (gConsA (gIsiX CSX "NoLot" (gVar 0)) (gConsA (gIsiX CSX "NotOnly" (gVar 0)) (gConsA (gIsiX CSX "Only" (gVar 0)) (gConsA (gIsiX CSX "NoShares" (gVar 0)) gNilA)))))))))
  (gSeq (gSet 1 (gLst (g2N dCat (gVar 1) (gLst (gLstN (gConsA (gIsiX CSX "NoDeed" (gVar 0)) (gConsA (gIsiX CSX "NoName" (gVar 0)) (gConsA (gIsiX CSX "NoDraw" (gVar 0)) gNilA))))))))
  (gSeq (gSet 2 (gLst (gLstN (gStrs ["NoNumber","NoPlan","TooLong","NoText","NoEnd","TooMany","NoRow","NoTelling","NoLot","NotOnly"]))))
  (gSeq (gSet 2 (gLst (g2N dCat (gVar 2) (gLst (gLstN (gStrs ["Only","NoShares","NoDeed","NoName","NoDraw"])))))) R)))))) [some (exD a c),none,none,none]=R [some (exD a c),some (.list (TSX.map fun T=>.bool (isX c T))),some (.list (TSX.map .str)),none]:=by
 rcases List.mem_cons.mp hc with rfl | hc
 ·kernel_rfl
 cases hc
theorem zdT (a:Addr):zaO a [exD a "TooMany"]=some (.str "TooMany"):=by
 refine Eq.trans (congrArg (fun r=>Option.bind r gOut) ((zi2 a "TooMany" _ (by simp)).trans (zlt (zlA (zjj (zdQ rfl)))))) ?_
 kernel_rfl
theorem zlx (a:Addr) (c:Str) (hc:c∈CSX):zaO a [exD a c]=some (.str c):=by
 rcases List.mem_cons.mp hc with rfl | hc
 ·exact zdT a
 cases hc
noncomputable abbrev zck (a:Addr):DS->Option Res:=(gRet (gLst (gLstN (gConsA (gCall (zaO a) 1 (gConsA (gVar 2) gNilA)) gNilA))))
theorem zdL (a:Addr) (c:Str) (d:D) (h:handOf CSX (fun c=>.list [.str c]) c=some d):zck a ((List.replicate 3 none).set 2 (some (exD a c)))=some (.rt d):=by
 obtain ⟨hc,rfl⟩:=zcA h
 exact zi9 rfl (zlx a c hc)
noncomputable abbrev za2:DS->Option Res:=(gSeq (gTry (gSetRN 1 (gCall z7 1 (gConsA (gVar 0) gNilA))) (handOf CSX (fun c=>.list [.str c])))
  (gRet (gVar 1)))
noncomputable def zD:List D->Option (List D):=gDefN 3 za2
theorem zeg (a0:D):zD [a0]=(za2 [some a0,none,none]).bind gOutN:=rfl
noncomputable abbrev zkA:DS->Option Res:=(gSeq (gSet 1 (gCall zbg 1 (gConsA (gCall zP 2 (gConsA (gVar 0) (gConsA (gC (.int (1))) gNilA))) gNilA)))
  (gSeq (gIf (gB (g2 dEq (g2 dMod (g2 dDiv (gCall zP 2 (gConsA (gVar 0) (gConsA (gC (.int (1))) gNilA))) (gC (.int (1000)))) (gC (.int (8)))) (gC (.int (1))))) (gSet 1 (gC (.int (24)))) gSkip)
  (gSeq (gSet 2 (gCall zbb 2 (gConsA (gCall zP 2 (gConsA (gVar 0) (gConsA (gC (.int (0))) gNilA))) (gConsA (gVar 1) gNilA))))
  (gSeq (gSet 3 (gCall zar 1 (gConsA (gVar 2) gNilA)))
  (gSeq (gIf (gB (g2 dGt (gB1 dSum (gConsA (gLst (gComp (gItems (gLst (gCallN zag 1 (gConsA (gVar 2) gNilA)))) [3] (gDget (gVar 1) (gVar 0)))) gNilA)) (gC (.int (4000))))) (gRet (g2 dEq (gLst (gCallN zD 1 (gConsA (gVar 2) gNilA))) (gLst (gLstN (gConsA (gC (.str "TooMany")) gNilA))))) gSkip)
  (gSeq (gSet 4 (gLst (gCompL (gItems (gLst (gCallN zay 1 (gConsA (gVar 2) gNilA)))) 2 [] (gTupT 2 (gConsT (gName' 0) (gConsT (gName' 1) gNilT))) (fun _=>some true) (gVar 0))))
  (gSeq (gSetN 5 (gCallN zD 1 (gConsA (gVar 2) gNilA)))
  (gSeq (gIf (gOr (gNot (gTru (gIsi "list" (gVar 5)))) (gOr (gB (g2 dNe (gVar 5) (gVar 4))) (gNot (gTru (gB1 dAll (gConsA (gLst (gComp (gItems (gVar 5)) [] (gIsi "str" (gVar 0)))) gNilA)))))) (gRet (gC (.bool false))) gSkip)
  (gSeq (gFor (gRange1 (gConsA (g2 dSub (gB1 dLen (gConsA (gVar 5) gNilA)) (gC (.int (1)))) gNilA)) (gName' 6)
   (gIf (gOr (gB (g2 dGeS (g2 dIx (gVar 5) (gVar 6)) (g2 dIx (gVar 5) (g2 dAddV (gVar 6) (gC (.int (1))))))) (gTru (gStarts (g2 dIx (gVar 5) (g2 dAddV (gVar 6) (gC (.int (1))))) (g2 dIx (gVar 5) (gVar 6))))) (gRet (gC (.bool false))) gSkip))
  (gSeq (gClear 5)
  (gRet (g2 dEq (gLst (gCallN zD 1 (gConsA (gVar 2) gNilA))) (gVar 4)))))))))))))
noncomputable def zgC:List D->Option D:=gDef 7 zkA
theorem zmZ (a0:D):zgC [a0]=(zkA [some a0,none,none,none,none,none,none]).bind gOut:=rfl
end MyLaw
open L2
namespace MyLaw
open PySem L2 Q1
theorem zf5 (ns:List Int) (k:Nat):zP [.list (ns.map .int),.int k]=some (.int (ns.getD k 0)):=by
 rw [zf9]
 simp only [gSeq,gIf,gB,g2,gVar,List.getElem?_cons_succ,List.getElem?_cons_zero,Option.join_some,gB1,gConsA,gNilA,Option.bind_some,zj0,zm1,gRet,zlc,gSkip,decide_eq_true_eq,gC]
 rw [List.length_map,List.getD_eq_getElem?_getD]
 by_cases h:k < ns.length
 ·rw [if_pos (by omega),zcQ (v:=.int ns[k]) (by rw [List.getElem?_map,List.getElem?_eq_getElem h]; rfl),List.getElem?_eq_getElem h]
  rfl
 ·rw [if_neg (by omega),List.getElem?_eq_none (by omega)]
  rfl
end MyLaw
namespace MyLaw
open PySem L2 Q1
noncomputable def dR (r:List Int):D:=.tuple (r.map .int)
noncomputable def dPl (p:List (List Int)):D:=.tuple (p.map dR)
noncomputable def Rise (l:List Int):Prop:=l.Pairwise (· < ·)
noncomputable def led (r:List Int):List Int:=ss (r ++ r.map (· + 1))
noncomputable def Nx (r s:List Int):Prop:=s≠[] /\ Rise s /\ ∀ x∈s,x∈led r
noncomputable def Chn:List Int->List (List Int)->Prop
 | _,[]=>True
 | r,s :: q=>Nx r s /\ Chn s q
noncomputable def lst:List Int->List (List Int)->List Int
 | r,[]=>r
 | _,s :: q=>lst s q
theorem zfB {s:List Int}:∀ {q:List (List Int)} {r:List Int},Chn r q->Nx (lst r q) s->Chn r (q ++ [s])
 | [],_,_,h=>⟨h,trivial⟩
 | _ :: _,_,h1,h2=>⟨h1.1,zfB h1.2 h2⟩
theorem zfy {s:List Int}:∀ {q:List (List Int)} {r:List Int},lst r (q ++ [s])=s
 | [],_=>rfl
 | _ :: q,_=>zfy (q:=q)
structure Pl (p:List (List Int)):Prop where
 ex:∃ q,p=[0] :: q /\ Chn [0] q
theorem zb3 {x:Int} {r:List Int}:x∈led r↔x∈r \/ x - 1∈r:=by
 unfold led
 rw [zg7,List.mem_append,List.mem_map]
 constructor
 ·rintro (h | ⟨y,h,e⟩)
  ·exact .inl h
  ·exact .inr (by have:x - 1=y:=by omega
                  rw [this]; exact h)
 ·rintro (h | h)
  ·exact .inl h
  ·exact .inr ⟨x - 1,h,by omega⟩
theorem zfL:∀ {l:List Int} {a b:Int},Rise l->(∀ x∈l,a<=x /\ x<=b)->(l.length:Int)<=max 0 (b - a + 1)
 | [],a,b,_,_=>by simp; omega
 | x :: l,a,b,h,hb=>by
   obtain ⟨h1,h2⟩:=List.pairwise_cons.mp h
   have hx:=hb x List.mem_cons_self
   have:=zfL (l:=l) (a:=x + 1) (b:=b) h2 fun y hy=>⟨by have:=h1 y hy; omega,(hb y (List.mem_cons_of_mem _ hy)).2⟩
   rw [List.length_cons]
   push_cast
   omega
theorem zdi {i:Nat} {g:DS->Option D} {δ:DS} {ds:List D} {d:D} (h1:gVar i δ=some (.list ds)) (h2:g δ=some d) (h3:ds.length < 100000):gApp i g δ=some (.nx (δ.set i (some (.list (ds ++ [d]))))):=by
 unfold gApp
 rw [h1,h2]
 show (if ds.length < 100000 then _ else _)=_
 rw [if_pos h3]
theorem zmX {g:DS->Option D} {δ:DS} {d:D} {ns:List Int} (h:g δ=some d) (h2:dRow d=some (ns.map .int)) (h3:ns.length < 64):gSS g δ=some ((ss ns).map .int):=by
 unfold gSS
 rw [h,Option.bind_some,h2,Option.bind_some,zcr,Option.bind_some,if_pos h3]
theorem zmE {a b:DS->Option D} {δ:DS} {x y:List D} (h1:a δ=some (.list x)) (h2:b δ=some (.list y)) (h3:x.length + y.length<=100000):g2N dCat a b δ=some (x ++ y):=by
 unfold g2N
 rw [h1,h2]
 show (if x.length + y.length<=100000 then _ else _)=_
 rw [if_pos h3]
theorem zcu {c:DS->Option Bool} {a b:DS->Option Res} {δ:DS} {r:Option Res} (x:Bool) (h:c δ=some x) (h1:x=true->a δ=r) (h2:x=false->b δ=r):gIf c a b δ=r:=by
 unfold gIf
 rw [h]
 cases x with
 | true=>exact h1 rfl
 | false=>exact h2 rfl
theorem ziT {α:Type} (enc:α->D) (l:List α) (lo hi:Option Int):∃ m:List α,cutD (l.map enc) lo hi=m.map enc /\ m.Sublist l:=by
 refine ⟨(l.drop (HT.sIx l.length 0 lo)).take (HT.sIx l.length l.length hi - HT.sIx l.length 0 lo),?_,(List.take_sublist _ _).trans (List.drop_sublist _ _)⟩
 unfold cutD
 rw [List.length_map,List.map_take,List.map_drop]
theorem zja {f:List D->Option D} {g:DS->Option (List D)} {δ:DS} {ds:List D} {r:Option D} (h:g δ=some ds) (h2:f ds=r):gB1 f g δ=r:=by unfold gB1; rw [h]; exact h2
theorem zfi {g:DS->Option D} {δ:DS} {i:Int} (h:g δ=some (.int i)):gPart g δ=some (some i):=by unfold gPart; rw [h]; rfl
theorem zgR {a b:DS->Option D} {δ:DS} {r:List Int} (h1:a δ=some (.list (r.map .int))) (h2:b δ=some (.list (r.map .int)) \/ b δ=some (dR r)) (hl:r.length < 32):gSS (gLst (g2N dCat a (gLst (gComp (gItems b) [] (g2 dAddV (gVar 0) (gC (.int 1))))))) δ=some ((led r).map .int):=by
 have hi:gItems b δ=some (r.map .int):=by
  unfold gItems
  rcases h2 with h2 | h2
  ·rw [h2]; rfl
  ·rw [h2]; rfl
 have hc:gComp (gItems b) [] (g2 dAddV (gVar 0) (gC (.int 1))) δ=some ((r.map (· + 1)).map .int):=zcS PyData.int PyData.int (fun x=>x + 1) r hi (by omega) (fun x _=>rfl)
 have hcat:=zmE h1 (zO hc) (by simp; omega)
 refine zmX (zO hcat) ?_ (by simp; omega)
 rw [List.map_append]
 rfl
theorem zeG (c b:Int) (n:Nat) (hb:0 < b) (hn:n<=1000):Gets (zaX [.int c,.int b,.int (n:Nat)]) fun ds=>∃ l:List Int,ds=l.map .int /\ l.length=n /\ ∀ x∈l,0<=x /\ x < b:=by
 rw [zfn]
 refine zH [some (.int c),some (.int b),some (.int (n:Nat)),some (.list []),none,none] rfl ?_
 refine zco 0 n (fun i δ=>∃ (l:List Int) (x y:Option D),δ=[some (.int c),some (.int b),some (.int (n:Nat)),some (.list (l.map .int)),x,y] /\ l.length=i /\ ∀ x∈l,0<=x /\ x < b) (zcX rfl (by omega)) ⟨[],none,none,rfl,rfl,by simp⟩ ?_ ?_
 ·rintro i δ hi ⟨l,x,y,rfl,hl,hx⟩
  have m1:dMulI (.int (c % 1000003)) (.int 48271)=some (.int (c % 1000003 * 48271)):=ze5 (zaS (by decide) (by decide))
  have m2:dMulI (.int (0 + (i:Int))) (.int (0 + (i:Int)))=some (.int ((0 + (i:Int)) * (0 + (i:Int)))):=ze5 (zaS (by omega) (by omega))
  have m3:dMulI (.int ((0 + (i:Int)) * (0 + (i:Int)))) (.int 69621)=some (.int ((0 + (i:Int)) * (0 + (i:Int)) * 69621)):=ze5 (zaS (by decide) (by decide))
  have m4:dMulI (.int (0 + (i:Int))) (.int 16807)=some (.int ((0 + (i:Int)) * 16807)):=ze5 (zaS (by decide) (by decide))
  refine ⟨_,[some (.int c),some (.int b),some (.int (n:Nat)),some (.list ((l ++ [_]).map .int)),some (.int (0 + (i:Int))),some (.int ((c % 1000003 * 48271 + (0 + (i:Int)) * (0 + (i:Int)) * 69621 + (0 + (i:Int)) * 16807) % 2147483647))],rfl,
   zai [some (.int c),some (.int b),some (.int (n:Nat)),some (.list (l.map .int)),some (.int (0 + (i:Int))),some (.int ((c % 1000003 * 48271 + (0 + (i:Int)) * (0 + (i:Int)) * 69621 + (0 + (i:Int)) * 16807) % 2147483647))]
    (zQ (zk (zk (zk (zk (zk rfl rfl (zbH (by decide))) rfl m1) (zk (zk rfl rfl m2) rfl m3) rfl) (zk rfl rfl m4) rfl) rfl (zbH (by decide))))
    ((zdi (d:=.int (((c % 1000003 * 48271 + (0 + (i:Int)) * (0 + (i:Int)) * 69621 + (0 + (i:Int)) * 16807) % 2147483647 * 39373 + c) % 2147483629 / 13 % b)) rfl
      (zk (zk (zk (zk (zk rfl rfl (ze5 (zaS (by decide) (by decide)))) rfl rfl) rfl (zbH (by decide))) rfl (ziD (by decide) (ziG (zjl (m:=4) (by decide)) (by decide)))) rfl (zbH hb)) (by simp; omega)).trans (by rw [List.map_append]; rfl)),l ++ [_],_,_,rfl,by simp [hl],?_⟩
  intro z hz
  rcases List.mem_append.mp hz with q | q
  ·exact hx z q
  ·rw [List.mem_singleton.mp q]
   exact ⟨Int.emod_nonneg _ (by omega),Int.emod_lt_of_pos _ hb⟩
 ·rintro δ' ⟨l,x,y,rfl,hl,hx⟩
  exact ret (.list (l.map .int)) rfl (.mk rfl ⟨l,rfl,hl,hx⟩)
theorem zeA (c b:Int) (n:Nat) (hb:0 < b) (hb2:bt b<=9000) (hn:n<=1000):Gets (zak [.int c,.int b,.int (n:Nat)]) fun ds=>∃ l:List Int,ds=l.map .int /\ l.length=n /\ ∀ x∈l,0<=x /\ x < b:=by
 rw [zdS]
 refine zH [some (.int c),some (.int b),some (.int (n:Nat)),some (.list []),none] rfl ?_
 refine zco 0 n (fun i δ=>∃ (c:Int) (l:List Int) (x:Option D),δ=[some (.int c),some (.int b),some (.int (n:Nat)),some (.list (l.map .int)),x] /\ l.length=i /\ ∀ x∈l,0<=x /\ x < b) (zcX rfl (by omega)) ⟨c,[],none,rfl,rfl,by simp⟩ ?_ ?_
 ·rintro i δ hi ⟨c,l,x,rfl,hl,hx⟩
  refine ⟨_,[some (.int (c / b)),some (.int b),some (.int (n:Nat)),some (.list ((l ++ [c % b]).map .int)),some (.int (0 + (i:Int)))],rfl,
   zai [some (.int c),some (.int b),some (.int (n:Nat)),some (.list ((l ++ [c % b]).map .int)),some (.int (0 + (i:Int)))] ((zdi (d:=.int (c % b)) rfl (zk rfl rfl (zbH hb)) (by simp; omega)).trans (by rw [List.map_append]; rfl)) (zQ (zk rfl rfl (ziD hb hb2))),c / b,l ++ [c % b],_,rfl,by simp [hl],?_⟩
  intro z hz
  rcases List.mem_append.mp hz with q | q
  ·exact hx z q
  ·rw [List.mem_singleton.mp q]
   exact ⟨Int.emod_nonneg _ (by omega),Int.emod_lt_of_pos _ hb⟩
 ·rintro δ' ⟨c,l,x,rfl,hl,hx⟩
  exact ret (.list (l.map .int)) rfl (.mk rfl ⟨l,rfl,hl,hx⟩)
theorem zio {f:D->Option (Option D)} (hf:∀ (k:Nat) (x:Int),∃ b:Bool,f (.tuple [.int (k:Nat),.int x])=some (if b=true then some (.int x) else none)):∀ (l:List Int) (n:Nat),∃ m:List Int,fltD f (((l.map PyData.int).zipIdx n).map fun p=>.tuple [.int (p.2:Nat),p.1])=some (m.map .int) /\ m.Sublist l
 | [],n=>⟨[],rfl,.slnil⟩
 | x :: l,n=>by
   obtain ⟨m,e,hs⟩:=zio hf l (n + 1)
   obtain ⟨b,hb⟩:=hf n x
   rw [List.map_cons,List.zipIdx_cons,List.map_cons,fltD,hb,Option.bind_some,e,Option.bind_some]
   cases b with
   | true=>exact ⟨x :: m,rfl,hs.cons₂ x⟩
   | false=>exact ⟨m,rfl,hs.cons x⟩
theorem zhA {l:List Int} {i:Int} (h0:0<=i) (h1:i < l.length):∃ x,x∈l /\ dIx (.list (l.map .int)) (.int i)=some (.int x):=by
 obtain ⟨k,rfl⟩:∃ k:Nat,i=(k:Int):=⟨i.toNat,by omega⟩
 have hk:k < l.length:=by omega
 exact ⟨l[k],List.getElem_mem hk,zcQ (by rw [List.getElem?_map,List.getElem?_eq_getElem hk]; rfl)⟩
theorem led0:led [0]=[0,1]:=zlU (by simp) (by intro z; simp)
theorem zgp (c:Int) (m:Nat) (hm1:1<=m) (hm:m<=24):Gets (zbb [.int c,.int (m:Nat)]) fun d=>∃ p,d=dPl p /\ Pl p /\ p.length<=m /\ ∀ r∈p,r.length<=25:=by
 rw [zgb]
 have p18:dPow (.int 10) (.int 18)=some (.int (10 ^ 18)):=zmJ (k:=18) (by decide) (by decide)
 obtain ⟨many,hmany,hmany2,emany⟩:∃ many:Nat,100<=many /\ many<=300 /\ g2 dAddV (gC (.int (100))) (g2 dMulI (gC (.int (200))) (gB1 dInt (gConsA (g2 dGt (gVar 1) (gC (.int (12)))) gNilA))) [some (.int c),some (.int (m:Nat)),some (.int (c / 4)),none,none,none,none,none,none]=some (.int (many:Nat)):=by
  by_cases h:(12:Int) < (m:Int)
  ·refine ⟨300,by decide,by decide,zk rfl (zk rfl (show _=some (.int 1) from ?_) (ze5 (zaS (by decide) (by decide)))) rfl⟩
   show some (PyData.int (if decide ((12:Int) < (m:Int))=true then 1 else 0))=_
   rw [decide_eq_true h]; rfl
  ·refine ⟨100,by decide,by decide,zk rfl (zk rfl (show _=some (.int 0) from ?_) (ze5 (zaS (by decide) (by decide)))) rfl⟩
   show some (PyData.int (if decide ((12:Int) < (m:Int))=true then 1 else 0))=_
   rw [decide_eq_false h]; rfl
 have hm0:(0:Int) < (many:Int):=Int.ofNat_lt.mpr (Nat.lt_of_lt_of_le (by decide) hmany)
 have hm1000:many<=1000:=Nat.le_trans hmany2 (by decide)
 refine zH [some (.int c),some (.int (m:Nat)),some (.int (c / 4)),none,none,none,none,none,none] (zQ (zk rfl rfl (ziD (by decide) (ziG (zjl (m:=4) (by decide)) (by decide))))) ?_
 refine zH [some (.int c),some (.int (m:Nat)),some (.int (c / 4)),some (.int (many:Nat)),none,none,none,none,none] (zQ emany) ?_
 obtain ⟨_,e1,l1,rfl,hl1,hx1⟩:=zeG (c / 4) 3 many (by decide) hm1000
 refine zH [some (.int c),some (.int (m:Nat)),some (.int (c / 4)),some (.int (many:Nat)),some (.list (l1.map .int)),none,none,none,none] (zQ (zO (zS (zf rfl (zf rfl (zf rfl rfl))) rfl e1))) ?_
 have dig:∃ dg:List Int,dg.length=many /\ gIf (gB (g2 dGe (gB1 dAbs (gConsA (gVar 0) gNilA)) (g2 dPow (gC (.int (10))) (gC (.int (18)))))) (gSet 4 (gLst (gCallN zak 3 (gConsA (gVar 2) (gConsA (gC (.int (3))) (gConsA (gVar 3) gNilA)))))) gSkip [some (.int c),some (.int (m:Nat)),some (.int (c / 4)),some (.int (many:Nat)),some (.list (l1.map .int)),none,none,none,none]
   =some (.nx [some (.int c),some (.int (m:Nat)),some (.int (c / 4)),some (.int (many:Nat)),some (.list (dg.map .int)),none,none,none,none]):=by
  obtain ⟨_,e2,l2,rfl,hl2,hx2⟩:=zeA (c / 4) 3 many (by decide) (ziG (zjl (m:=4) (by decide)) (by decide)) hm1000
  have hc:gB (g2 dGe (gB1 dAbs (gConsA (gVar 0) gNilA)) (g2 dPow (gC (.int (10))) (gC (.int (18))))) [some (.int c),some (.int (m:Nat)),some (.int (c / 4)),some (.int (many:Nat)),some (.list (l1.map .int)),none,none,none,none]=some (decide ((10 ^ 18:Int)<=(if c < 0 then -c else c))):=zba (zk rfl p18 rfl)
  by_cases h:((10 ^ 18:Int)<=(if c < 0 then -c else c))
  ·exact ⟨l2,hl2,zcu true (by rw [hc,decide_eq_true h]) (fun _=>zQ (zO (zS (zf rfl (zf rfl (zf rfl rfl))) rfl e2))) (fun z=>nomatch z)⟩
  ·exact ⟨l1,hl1,zcu false (by rw [hc,decide_eq_false h]) (fun z=>nomatch z) (fun _=>rfl)⟩
 obtain ⟨dg,hdg,edg⟩:=dig
 refine zH _ edg ?_
 refine zH [some (.int c),some (.int (m:Nat)),some (.int (c / 4)),some (.int (many:Nat)),some (.list (dg.map .int)),some (.list [dR [0]]),none,none,none] rfl ?_
 refine zH [some (.int c),some (.int (m:Nat)),some (.int (c / 4)),some (.int (many:Nat)),some (.list (dg.map .int)),some (.list [dR [0]]),some (.list (([0,1]:List Int).map .int)),none,none] rfl ?_
 refine zH [some (.int c),some (.int (m:Nat)),some (.int (c / 4)),some (.int (many:Nat)),some (.list (dg.map .int)),some (.list [dR [0]]),some (.list (([0,1]:List Int).map .int)),some (.int 0),none] rfl ?_
 refine zeD (fun k δ=>∃ (q:List (List Int)) (come:List Int) (pos:Nat) (z:Option D),δ=[some (.int c),some (.int (m:Nat)),some (.int (c / 4)),some (.int (many:Nat)),some (.list (dg.map .int)),some (.list (([0] :: q).map dR)),some (.list (come.map .int)),some (.int (pos:Nat)),z] /\
   Chn [0] q /\ q.length + 1<=m /\ (come=[] \/ come=led (lst [0] q)) /\ Rise come /\ (∀ x∈come,0<=x /\ x<=(q.length:Int) + 1) /\ (∀ r∈q,r.length<=25) /\ k=2 * (m - q.length) + (if come=[] then 0 else 1))
  (fun δ=>∃ (q:List (List Int)) (x y z:Option D),δ=[some (.int c),some (.int (m:Nat)),some (.int (c / 4)),some (.int (many:Nat)),some (.list (dg.map .int)),some (.list (([0] :: q).map dR)),x,y,z] /\ Chn [0] q /\ q.length + 1<=m /\ ∀ r∈q,r.length<=25)
  (2 * m + 1) ⟨[],[0,1],0,none,rfl,trivial,by simpa using hm1,.inr led0.symm,by unfold Rise; simp,by intro x hx; simp at hx; rcases hx with h | h <;> subst h <;> decide,by simp,by simp⟩ ?_ ?_
 ·rintro k δ ⟨q,come,pos,z,rfl,hq,hqm,hcome,hr,hb,h25,rfl⟩
  have hlen:come.length<=q.length + 2:=by
   have:=zfL hr hb
   omega
  have cond:gAnd (gB (g2 dLt (gB1 dLen (gConsA (gVar 5) gNilA)) (gVar 1))) (gB (g2 dGt (gB1 dLen (gConsA (gVar 6) gNilA)) (gC (.int (0))))) [some (.int c),some (.int (m:Nat)),some (.int (c / 4)),some (.int (many:Nat)),some (.list (dg.map .int)),some (.list (([0] :: q).map dR)),some (.list (come.map .int)),some (.int (pos:Nat)),z]
    =some (decide ((((([0] :: q).map dR).length:Nat):Int) < (m:Int)) && decide ((0:Int) < (((come.map PyData.int).length:Nat):Int))):=by
   by_cases h:((((([0] :: q).map dR).length:Nat):Int) < (m:Int))
   ·rw [decide_eq_true h,Bool.true_and]
    exact zml (zba (b:=true) (show _=_ from congrArg (fun b=>some (PyData.bool b)) (decide_eq_true h))) (zba rfl)
   ·rw [decide_eq_false h,Bool.false_and]
    have h1:gB (g2 dLt (gB1 dLen (gConsA (gVar 5) gNilA)) (gVar 1)) [some (.int c),some (.int (m:Nat)),some (.int (c / 4)),some (.int (many:Nat)),some (.list (dg.map .int)),some (.list (([0] :: q).map dR)),some (.list (come.map .int)),some (.int (pos:Nat)),z]=some false:=
     zba (b:=false) (show _=_ from congrArg (fun b=>some (PyData.bool b)) (decide_eq_false h))
    unfold gAnd
    rw [h1]; rfl
  rw [cond]
  cases hcd:(decide ((((([0] :: q).map dR).length:Nat):Int) < (m:Int)) && decide ((0:Int) < (((come.map PyData.int).length:Nat):Int))) with
  | false=>exact .inl ⟨rfl,q,_,_,_,rfl,hq,hqm,h25⟩
  | true=>
    rw [Bool.and_eq_true,decide_eq_true_eq,decide_eq_true_eq] at hcd
    have hqm2:q.length + 1 < m:=by
     have:=hcd.1
     simp at this
     omega
    have hne:come≠[]:=by
     intro e
     subst e
     simp at hcd
    have hcl:come=led (lst [0] q):=hcome.resolve_left hne
    refine .inr ⟨rfl,?_⟩
    have comp:∃ r1:List Int,gCompL (gEnumerate (gVar 6)) 2 [4,3,7] (gTupT 2 (gConsT (gName' 0) (gConsT (gName' 1) gNilT))) (gB (g2 dGt (g2 dIx (gVar 2) (g2 dMod (g2 dAddV (gVar 4) (gVar 0)) (gVar 3))) (gC (.int (0))))) (gVar 1)
      [some (.int c),some (.int (m:Nat)),some (.int (c / 4)),some (.int (many:Nat)),some (.list (dg.map .int)),some (.list (([0] :: q).map dR)),some (.list (come.map .int)),some (.int (pos:Nat)),z]=some (r1.map .int) /\ r1.Sublist come:=by
     obtain ⟨f,ef⟩:∃ f:D->Option (Option D),f=fun d=>(gTupT 2 (gConsT (gName' 0) (gConsT (gName' 1) gNilT)) d (List.replicate 2 none ++ captD [4,3,7] [some (.int c),some (.int (m:Nat)),some (.int (c / 4)),some (.int (many:Nat)),some (.list (dg.map .int)),some (.list (([0] :: q).map dR)),some (.list (come.map .int)),some (.int (pos:Nat)),z])).bind fun δ1=>
       (gB (g2 dGt (g2 dIx (gVar 2) (g2 dMod (g2 dAddV (gVar 4) (gVar 0)) (gVar 3))) (gC (.int (0)))) δ1).bind fun b=>if b=true then (gVar 1 δ1).map some else some none:=⟨_,rfl⟩
     have hf:∀ (k:Nat) (x:Int),∃ b:Bool,f (.tuple [.int (k:Nat),.int x])=some (if b=true then some (.int x) else none):=by
      intro k x
      obtain ⟨y,_,ey⟩:=zhA (l:=dg) (i:=((pos:Nat) + (k:Nat):Int) % (many:Nat)) (Int.emod_nonneg _ (Int.ne_of_gt hm0)) (by rw [hdg]; exact Int.emod_lt_of_pos _ hm0)
      refine ⟨decide (0 < y),?_⟩
      rw [ef]
      show (Option.bind (some [some (PyData.int (k:Nat)),some (.int x),some (.list (dg.map .int)),some (.int (many:Nat)),some (.int (pos:Nat))]) _)=_
      rw [Option.bind_some]
      have hb:gB (g2 dGt (g2 dIx (gVar 2) (g2 dMod (g2 dAddV (gVar 4) (gVar 0)) (gVar 3))) (gC (.int (0)))) [some (PyData.int (k:Nat)),some (.int x),some (.list (dg.map .int)),some (.int (many:Nat)),some (.int (pos:Nat))]=some (decide (0 < y)):=
       zba (zk (zk rfl (zk (zk rfl rfl rfl) rfl (zbH hm0)) ey) rfl rfl)
      rw [hb,Option.bind_some]
      cases decide (0 < y) <;> rfl
     obtain ⟨m1,em1,hs1⟩:=zio hf come 0
     refine ⟨m1,?_,hs1⟩
     unfold gCompL
     rw [show gEnumerate (gVar 6) [some (.int c),some (.int (m:Nat)),some (.int (c / 4)),some (.int (many:Nat)),some (.list (dg.map .int)),some (.list (([0] :: q).map dR)),some (.list (come.map .int)),some (.int (pos:Nat)),z]=some (enumD (come.map .int)) from rfl,Option.bind_some,if_pos (by rw [zcW,List.length_map]; omega)]
     rw [ef] at em1
     exact em1
    obtain ⟨r1,er1,hs1⟩:=comp
    have slice:∃ r:List Int,r.Sublist come /\ gIf (gB (g2 dGt (g2 dMod (gVar 0) (gC (.int (4)))) (gC (.int (1))))) (gSet 8 (gLst (gSlL (gVar 6) (gPart (g2 dIx (gVar 4) (g2 dMod (gVar 7) (gVar 3)))) (gPart (gB1 dMax2 (gConsA (gC (.int (0))) (gConsA (g2 dSub (gB1 dLen (gConsA (gVar 6) gNilA)) (g2 dIx (gVar 4) (g2 dMod (g2 dAddV (gVar 7) (gC (.int (1)))) (gVar 3)))) gNilA))))))) gSkip
      [some (.int c),some (.int (m:Nat)),some (.int (c / 4)),some (.int (many:Nat)),some (.list (dg.map .int)),some (.list (([0] :: q).map dR)),some (.list (come.map .int)),some (.int ((pos:Nat) + (come.map PyData.int).length)),some (.list (r1.map .int))]
      =some (.nx [some (.int c),some (.int (m:Nat)),some (.int (c / 4)),some (.int (many:Nat)),some (.list (dg.map .int)),some (.list (([0] :: q).map dR)),some (.list (come.map .int)),some (.int ((pos:Nat) + (come.map PyData.int).length)),some (.list (r.map .int))]):=by
     obtain ⟨y1,_,ey1⟩:=zhA (l:=dg) (i:=((pos:Nat) + (come.map PyData.int).length:Int) % (many:Nat)) (Int.emod_nonneg _ (Int.ne_of_gt hm0)) (by rw [hdg]; exact Int.emod_lt_of_pos _ hm0)
     obtain ⟨y2,_,ey2⟩:=zhA (l:=dg) (i:=((pos:Nat) + (come.map PyData.int).length + 1:Int) % (many:Nat)) (Int.emod_nonneg _ (Int.ne_of_gt hm0)) (by rw [hdg]; exact Int.emod_lt_of_pos _ hm0)
     have hc:gB (g2 dGt (g2 dMod (gVar 0) (gC (.int (4)))) (gC (.int (1)))) [some (.int c),some (.int (m:Nat)),some (.int (c / 4)),some (.int (many:Nat)),some (.list (dg.map .int)),some (.list (([0] :: q).map dR)),some (.list (come.map .int)),some (.int ((pos:Nat) + (come.map PyData.int).length)),some (.list (r1.map .int))]=some (decide (1 < c % 4)):=
      zba (zk (zk rfl rfl (zbH (by decide))) rfl rfl)
     by_cases h:1 < c % 4
     ·obtain ⟨r2,er2,hs2⟩:=ziT PyData.int come (some y1) (some (if ((come.map PyData.int).length:Int) - y2 > 0 then ((come.map PyData.int).length:Int) - y2 else 0))
      refine ⟨r2,hs2,zcu true (by rw [hc,decide_eq_true h]) (fun _=>zQ (zO ?_)) (fun z=>nomatch z)⟩
      have f1:gPart (g2 dIx (gVar 4) (g2 dMod (gVar 7) (gVar 3))) [some (.int c),some (.int (m:Nat)),some (.int (c / 4)),some (.int (many:Nat)),some (.list (dg.map .int)),some (.list (([0] :: q).map dR)),some (.list (come.map .int)),some (.int ((pos:Nat) + (come.map PyData.int).length)),some (.list (r1.map .int))]=some (some y1):=by
       exact zfi (zk rfl (zk rfl rfl (zbH hm0)) ey1)
      have f2:gPart (gB1 dMax2 (gConsA (gC (.int (0))) (gConsA (g2 dSub (gB1 dLen (gConsA (gVar 6) gNilA)) (g2 dIx (gVar 4) (g2 dMod (g2 dAddV (gVar 7) (gC (.int (1)))) (gVar 3)))) gNilA))) [some (.int c),some (.int (m:Nat)),some (.int (c / 4)),some (.int (many:Nat)),some (.list (dg.map .int)),some (.list (([0] :: q).map dR)),some (.list (come.map .int)),some (.int ((pos:Nat) + (come.map PyData.int).length)),some (.list (r1.map .int))]
        =some (some (if ((come.map PyData.int).length:Int) - y2 > 0 then ((come.map PyData.int).length:Int) - y2 else 0)):=by
       have g:g2 dSub (gB1 dLen (gConsA (gVar 6) gNilA)) (g2 dIx (gVar 4) (g2 dMod (g2 dAddV (gVar 7) (gC (.int (1)))) (gVar 3))) [some (.int c),some (.int (m:Nat)),some (.int (c / 4)),some (.int (many:Nat)),some (.list (dg.map .int)),some (.list (([0] :: q).map dR)),some (.list (come.map .int)),some (.int ((pos:Nat) + (come.map PyData.int).length)),some (.list (r1.map .int))]=some (.int (((come.map PyData.int).length:Int) - y2)):=
        zk rfl (zk rfl (zk (zk rfl rfl rfl) rfl (zbH hm0)) ey2) rfl
       exact zfi (zja (zf rfl (zf g rfl)) rfl)
      unfold gSlL
      rw [f1,f2]
      show some (cutD (come.map .int) _ _)=_
      rw [er2]
     ·exact ⟨r1,hs1,zcu false (by rw [hc,decide_eq_false h]) (fun z=>nomatch z) (fun _=>rfl)⟩
    obtain ⟨r,hs,esl⟩:=slice
    have hrr:Rise r:=hr.sublist hs
    have hrl:r.length<=25:=by have:=hs.length_le; omega
    have hrb:∀ x∈r,0<=x /\ x<=(q.length:Int) + 1:=fun x hx=>hb x (hs.subset hx)
    have e6:=zgR (a:=gVar 8) (b:=gVar 8) (δ:=[some (.int c),some (.int (m:Nat)),some (.int (c / 4)),some (.int (many:Nat)),some (.list (dg.map .int)),some (.list (([0] :: q).map dR)),some (.list (come.map .int)),some (.int ((pos:Nat) + (come.map PyData.int).length)),some (.list (r.map .int))]) (r:=r) rfl (.inl rfl) (by omega)
    by_cases hre:r=[]
    ·subst hre
     refine ⟨[some (.int c),some (.int (m:Nat)),some (.int (c / 4)),some (.int (many:Nat)),some (.list (dg.map .int)),some (.list (([0] :: q).map dR)),some (.list (([]:List Int).map .int)),some (.int (((pos + come.length:Nat):Nat):Int)),some (.list (([]:List Int).map .int))],2 * (m - q.length),?_,by rw [if_neg hne]; omega,q,[],pos + come.length,_,rfl,hq,hqm,.inl rfl,.nil,by simp,h25,by simp⟩
     refine zai _ (zQ (zO er1)) (zai _ (zQ (zk rfl rfl rfl)) (zai _ esl (zai _ (zQ (zO e6)) ?_)))
     refine (zcu false rfl (fun z=>nomatch z) fun _=>rfl).trans ?_
     rw [List.length_map]
     push_cast
     rfl
    ·have hnx:Nx (lst [0] q) r:=⟨hre,hrr,fun x hx=>hcl ▸ hs.subset hx⟩
     refine ⟨[some (.int c),some (.int (m:Nat)),some (.int (c / 4)),some (.int (many:Nat)),some (.list (dg.map .int)),some (.list (([0] :: (q ++ [r])).map dR)),some (.list ((led r).map .int)),some (.int (((pos + come.length:Nat):Nat):Int)),some (.list (r.map .int))],2 * (m - (q ++ [r]).length) + (if led r=[] then 0 else 1),?_,?_,q ++ [r],led r,pos + come.length,_,rfl,zfB hq hnx,by simp; omega,.inr (by rw [zfy]),zbr,?_,?_,rfl⟩
     ·refine zai _ (zQ (zO er1)) (zai _ (zQ (zk rfl rfl rfl)) (zai _ esl (zai _ (zQ (zO e6)) ?_)))
      have hpos:(0:Int) < ((r.map PyData.int).length:Int):=by
       have:=List.length_pos_iff.mpr hre
       simp; omega
      refine (zcu true (zba (b:=true) (show _=_ from congrArg (fun b=>some (PyData.bool b)) (decide_eq_true hpos))) (fun _=>zdi (ds:=([0] :: q).map dR) (d:=dR r) rfl rfl (by simp; omega)) fun z=>nomatch z).trans ?_
      rw [List.length_map,<- List.cons_append,List.map_append]
      push_cast
      rfl
     ·have hl:led r≠[]:=fun e=>by
       obtain ⟨x,hx⟩:=List.exists_mem_of_ne_nil r hre
       have:=zb3.mpr (.inl hx)
       rw [e] at this; simp at this
      rw [if_neg hl,if_neg hne]
      simp
      omega
     ·intro x hx
      rcases zb3.mp hx with h | h
      ·have:=hrb x h; simp; omega
      ·have:=hrb _ h; simp; omega
     ·intro s hs'
      rcases List.mem_append.mp hs' with h | h
      ·exact h25 s h
      ·rw [List.mem_singleton.mp h]; exact hrl
 ·rintro δ' ⟨q,x,y,z,rfl,hq,hqm,h25⟩
  refine ret (dPl ([0] :: q)) rfl (.mk rfl ⟨[0] :: q,rfl,⟨q,rfl,hq⟩,by simpa using hqm,fun r hr=>?_⟩)
  rcases List.mem_cons.mp hr with h | h
  ·rw [h]; decide
  ·exact h25 r h
end MyLaw
namespace MyLaw
open PySem L2 Q1
theorem zlf {i:Int} {T:List Int}:dIn (.int i) (.list (T.map .int))=some (.bool (decide (i∈T))):=by
 have hf:(flatD (.int i) && (T.map PyData.int).all flatD)=true:=by simp [flatD]
 show (if (flatD (.int i) && (T.map PyData.int).all flatD)=true then some (PyData.bool ((T.map PyData.int).any fun z=>eqD z (.int i))) else none)=_
 rw [if_pos hf,List.any_map]
 congr 2
 rw [Bool.eq_iff_iff,List.any_eq_true,decide_eq_true_eq]
 constructor
 ·rintro ⟨x,hx,e⟩
  rw [Function.comp,zix,decide_eq_true_eq] at e
  rw [<- e]; exact hx
 ·intro h
  exact ⟨i,h,by rw [Function.comp,zix]; simp⟩
theorem zh4 {i:Int} {T:List Int}:dIn (.int i) (dR T)=some (.bool (decide (i∈T))):=zlf
theorem dd {a:Int} (b:Int) (h:0 < b) (h2:b.natAbs < 2 ^ 70):dDiv (.int a) (.int b)=some (.int (a / b)):=ziD h (ziG (zjl h2) (by decide))
theorem zl7 {a b:DS->Option D} {δ:DS} {x y:Bool} (h1:a δ=some (.bool x)) (h2:x=true->b δ=some (.bool y)):gAndV a b δ=some (.bool (x && y)):=by
 unfold gAndV
 rw [zba h1,Option.bind_some]
 cases x with
 | true=>rw [if_pos rfl,h2 rfl]; rfl
 | false=>rfl
theorem zjD {p:List (List Int)} {i:Int} (h0:0<=i) (h1:i < (p.length:Int)):dIx (dPl p) (.int i)=some (dR (p.getD i.toNat [])):=by
 obtain ⟨k,rfl⟩:∃ k:Nat,i=(k:Int):=⟨i.toNat,by omega⟩
 have hk:k < p.length:=by omega
 refine zcQ ?_
 rw [List.getElem?_map,Int.toNat_natCast,List.getD_eq_getElem?_getD,List.getElem?_eq_getElem hk]
 rfl
theorem zgj (c:Int):∃ m:Nat,1<=m /\ m<=12 /\ zbg [.int c]=some (.int (m:Nat)):=by
 by_cases h:c / 7 % 8=1
 ·have h0:=Int.emod_nonneg (c / 56) (b:=12) (by decide)
  have h1:=Int.emod_lt_of_pos (c / 56) (show (0:Int) < 12 by decide)
  refine ⟨(1 + c / 56 % 12).toNat,by omega,by omega,?_⟩
  rw [zdh]
  refine z5 (zce true (zba (b:=true) ?_) (fun _=>zcN (.int (1 + c / 56 % 12)) (zk rfl (zk (zk rfl rfl (dd 56 (by decide) (by decide))) rfl (zbH (by decide))) rfl) (.mk rfl ?_)) fun z=>nomatch z)
  ·refine (zk (zk (zk rfl rfl (dd 7 (by decide) (by decide))) rfl (zbH (by decide))) rfl rfl).trans ?_
   rw [zjX,decide_eq_true h]
  ·rw [show (((1 + c / 56 % 12).toNat:Nat):Int)=1 + c / 56 % 12 by omega]
 ·have h0:=Int.emod_nonneg c (b:=7) (by decide)
  have h1:=Int.emod_lt_of_pos c (show (0:Int) < 7 by decide)
  refine ⟨(1 + c % 7).toNat,by omega,by omega,?_⟩
  rw [zdh]
  refine z5 (zc4 (zba (b:=false) ?_) (ret (.int (1 + c % 7)) (zk rfl (zk rfl rfl (zbH (by decide))) rfl) (.mk rfl ?_)))
  ·refine (zk (zk (zk rfl rfl (dd 7 (by decide) (by decide))) rfl (zbH (by decide))) rfl rfl).trans ?_
   rw [zjX,decide_eq_false h]
  ·rw [show (((1 + c % 7).toNat:Nat):Int)=1 + c % 7 by omega]
end MyLaw
namespace MyLaw
open PySem L2 Q1
noncomputable abbrev WF:=Int->Int->Int
noncomputable def dC (c:Int×Int):D:=.tuple [.int c.1,.int c.2]
noncomputable def stepF (F:WF) (c:Int×Int):WF:=fun x y=>F x y + (if x=c.1 + 1 /\ y=c.2 then F c.1 c.2 else 0) + (if x=c.1 /\ y=c.2 + 1 then F c.1 c.2 else 0)
noncomputable def beg0 (c:Int×Int):WF:=fun x y=>if x=c.1 /\ y=c.2 then 1 else 0
noncomputable def rowC (n:Nat) (r:List Int):List (Int×Int):=r.map fun b=>(b,(n:Int) - b)
noncomputable def cnts:Nat->List (List Int)->List (Int×Int)
 | _,[]=>[]
 | n,r :: p=>rowC n r ++ cnts (n + 1) p
theorem zbd (r:List Int):∀ (p:List (List Int)) (n:Nat),cnts n (p ++ [r])=cnts n p ++ rowC (n + p.length) r
 | [],n=>by simp [cnts]
 | s :: p,n=>by
   rw [List.cons_append,cnts,cnts,zbd r p (n + 1),List.append_assoc,List.length_cons,show n + 1 + p.length=n + (p.length + 1) by omega]
theorem zds:∀ (p:List (List Int)) (n:Nat),(∀ r∈p,r.length<=25)->(cnts n p).length<=25 * p.length
 | [],_,_=>by simp [cnts]
 | r :: p,n,h=>by
   have h1:=zds p (n + 1) fun s hs=>h s (List.mem_cons_of_mem _ hs)
   have h2:=h r List.mem_cons_self
   rw [cnts,List.length_append,List.length_cons,rowC,List.length_map]
   omega
noncomputable def lv (A:Int->Int) (r:List Int) (b:Int):Int:=(if b - 1∈r then A (b - 1) else 0) + (if b∈r then A b else 0)
theorem zka (A:Int->Int) (b:Int):lv A [] b=0:=by simp [lv]
theorem zjc {A:Int->Int} {r s:List Int} (h:∀ x,x∈r↔x∈s) (b:Int):lv A r b=lv A s b:=by simp only [lv,h]
noncomputable def WW:(Int->Int)->List (List Int)->Nat->Int->Int
 | A,_,0,b=>A b
 | _,[],_ + 1,_=>0
 | A,r :: p,k + 1,b=>WW (lv A r) p k b
theorem WW_0 (A:Int->Int) (p:List (List Int)):WW A p 0=A:=by funext b; cases p <;> rfl
theorem zca:∀ (p:List (List Int)) (A:Int->Int) (k:Nat) (b:Int),WW A p (k + 1) b=lv (WW A p k) (p.getD k []) b
 | [],A,k,b=>by
   rw [show ([]:List (List Int)).getD k []=[] from rfl,zka]; rfl
 | r :: p,A,0,b=>by
   show WW (lv A r) p 0 b=lv (WW A (r :: p) 0) r b
   rw [WW_0,WW_0]
 | r :: p,A,k + 1,b=>by
   show WW (lv A r) p (k + 1) b=lv (WW (lv A r) p k) (p.getD k []) b
   exact zca p (lv A r) k b
structure Lev (n:Nat) (F:WF) (A B:Int->Int):Prop where
 at0:∀ x y:Int,x + y=(n:Int)->F x y=A x
 at1:∀ x y:Int,x + y=(n:Int) + 1->F x y=B x
 up:∀ x y:Int,(n:Int) + 1 < x + y->F x y=0
theorem zjn {n:Nat} {F:WF} {A:Int->Int} {bs:List Int} {b:Int} (h:Lev n F A (lv A bs)) (hb:b∉bs):Lev n (stepF F (b,(n:Int) - b)) A (lv A (b :: bs)) /\ ∀ x y:Int,x + y < (n:Int)->stepF F (b,(n:Int) - b) x y=F x y:=by
 have e:∀ x y,stepF F (b,(n:Int) - b) x y=F x y + (if x=b + 1 /\ y=(n:Int) - b then A b else 0) + (if x=b /\ y=(n:Int) - b + 1 then A b else 0):=by
  intro x y
  unfold stepF
  rw [h.at0 b ((n:Int) - b) (by omega)]
 refine ⟨⟨?_,?_,?_⟩,?_⟩
 ·intro x y hxy
  rw [e,if_neg (by omega),if_neg (by omega),h.at0 x y hxy]; omega
 ·intro x y hxy
  rw [e,h.at1 x y hxy]
  have e1:(x=b + 1 /\ y=(n:Int) - b)↔x - 1=b:=by constructor <;> intro z <;> omega
  have e2:(x=b /\ y=(n:Int) - b + 1)↔x=b:=by constructor <;> intro z <;> omega
  simp only [e1,e2,lv,List.mem_cons]
  by_cases c1:x - 1=b
  ·have c2:¬ x=b:=by omega
   have c3:x - 1∉bs:=by rw [c1]; exact hb
   simp only [c1,c2,true_or,false_or,if_true,if_false,if_neg hb]
   omega
  ·by_cases c2:x=b
   ·subst c2
    simp only [c1,true_or,false_or,if_true,if_false,if_neg hb]
    omega
   ·simp only [c1,c2,false_or,if_false]
    omega
 ·intro x y hxy
  rw [e,if_neg (by omega),if_neg (by omega),h.up x y hxy]; rfl
 ·intro x y hxy
  rw [e,if_neg (by omega),if_neg (by omega)]; omega
theorem zgK {n:Nat} {A:Int->Int}:∀ (r bs:List Int) (F:WF),Lev n F A (lv A bs)->(∀ x∈r,x∉bs)->r.Nodup->Lev n ((rowC n r).foldl stepF F) A (lv A (r ++ bs)) /\ ∀ x y:Int,x + y < (n:Int)->(rowC n r).foldl stepF F x y=F x y
 | [],bs,F,h,_,_=>⟨h,fun _ _ _=>rfl⟩
 | b :: r,bs,F,h,hd,nd=>by
   obtain ⟨h1,h2⟩:=zjn h (hd b List.mem_cons_self)
   obtain ⟨n1,n2⟩:=List.nodup_cons.mp nd
   obtain ⟨h3,h4⟩:=zgK r (b :: bs) _ h1 (fun x hx z=>by
    rcases List.mem_cons.mp z with q | q
    ·subst q; exact n1 hx
    ·exact hd x (List.mem_cons_of_mem _ hx) q) n2
   refine ⟨?_,fun x y hxy=>(h4 x y hxy).trans (h2 x y hxy)⟩
   have:lv A (r ++ b :: bs)=lv A ((b :: r) ++ bs):=by
    funext x
    exact zjc (fun z=>by simp only [List.mem_append,List.mem_cons,List.cons_append]; constructor <;> rintro (q | q | q) <;> simp [q]) x
   rw [<- this]
   exact h3
theorem zdH:∀ (p:List (List Int)) (n:Nat) (A:Int->Int) (F:WF),(∀ r∈p,r.Nodup)->(∀ x y:Int,x + y=(n:Int)->F x y=A x)->(∀ x y:Int,(n:Int) < x + y->F x y=0)->
  ∀ x y:Int,(x + y < (n:Int)->(cnts n p).foldl stepF F x y=F x y) /\ ∀ k:Nat,x + y=(n:Int) + (k:Int)->(cnts n p).foldl stepF F x y=WW A p k x
 | [],n,A,F,_,h0,h1,x,y=>by
   refine ⟨fun _=>rfl,fun k hk=>?_⟩
   show F x y=_
   cases k with
   | zero=>rw [WW_0]; exact h0 x y (by omega)
   | succ k=>exact h1 x y (by omega)
 | r :: p,n,A,F,hn,h0,h1,x,y=>by
   have L0:Lev n F A (lv A []):=⟨h0,fun x y q=>by rw [zka]; exact h1 x y (by omega),fun x y q=>h1 x y (by omega)⟩
   obtain ⟨L1,K1⟩:=zgK r [] F L0 (fun x _ z=>by simp at z) (hn r List.mem_cons_self)
   rw [List.append_nil] at L1
   have ih:=zdH p (n + 1) (lv A r) ((rowC n r).foldl stepF F) (fun s hs=>hn s (List.mem_cons_of_mem _ hs)) (fun x y q=>L1.at1 x y (by push_cast at q; omega)) (fun x y q=>L1.up x y (by push_cast at q; omega)) x y
   rw [cnts,List.foldl_append]
   refine ⟨fun q=>(ih.1 (by push_cast; omega)).trans (K1 x y q),fun k hk=>?_⟩
   cases k with
   | zero=>
     rw [WW_0,ih.1 (by push_cast; omega)]
     exact L1.at0 x y (by omega)
   | succ k=>exact ih.2 k (by push_cast; push_cast at hk; omega)
theorem zcB {l:List Int} (h:Rise l):l.Nodup:=h.imp fun z e=>by omega
theorem zh5:∀ {q:List (List Int)} {r:List Int} {n:Nat},(∀ x∈r,0<=x /\ x<=(n:Int))->Chn r q->(∀ s∈q,s.Nodup) /\ ∀ k,∀ x∈q.getD k [],0<=x /\ x<=((n + 1 + k:Nat):Int)
 | [],_,_,_,_=>⟨by simp,fun k x hx=>by simp at hx⟩
 | s :: q,r,n,hr,hc=>by
   have hs:∀ x∈s,0<=x /\ x<=((n + 1:Nat):Int):=fun x hx=>by
    rcases zb3.mp (hc.1.2.2 x hx) with h | h
    ·have:=hr x h; omega
    ·have:=hr _ h; omega
   obtain ⟨i1,i2⟩:=zh5 (n:=n + 1) hs hc.2
   refine ⟨fun t ht=>?_,fun k x hx=>?_⟩
   ·rcases List.mem_cons.mp ht with z | z
    ·rw [z]; exact zcB hc.1.2.1
    ·exact i1 t z
   ·cases k with
    | zero=>exact hs x (by simpa using hx)
    | succ k=>
      have:=i2 k x (by simpa using hx)
      omega
theorem zgU {p:List (List Int)} (h:Pl p):(∀ s∈p,s.Nodup) /\ ∀ k,∀ x∈p.getD k [],0<=x /\ x<=(k:Int):=by
 obtain ⟨q,rfl,hc⟩:=h.ex
 obtain ⟨i1,i2⟩:=zh5 (q:=q) (r:=[0]) (n:=0) (by simp) hc
 refine ⟨fun s hs=>?_,fun k x hx=>?_⟩
 ·rcases List.mem_cons.mp hs with z | z
  ·rw [z]; simp
  ·exact i1 s z
 ·cases k with
  | zero=>simp at hx; subst hx; simp
  | succ k=>
    have:=i2 k x (by simpa using hx)
    omega
structure Dt (kds:List (D×D)) (F:WF):Prop where
 fn:fnD kds=false
 get2:∀ b g:Int,(dLook kds [.inl b,.inl g]).getD (.int 0)=.int (F b g)
instance {kds:List (D×D)} {F:WF}:CoeFun (Dt kds F) (fun _=>∀ b g:Int,(dLook kds [.inl b,.inl g]).getD (.int 0)=.int (F b g)):=⟨Dt.get2⟩
theorem zkk {kds:List (D×D)} {k:List Key} {d:D} (h:fnD kds=false):fnD (dPutD kds k d)=false:=by
 unfold dPutD
 split
 ·cases kds with
  | nil=>rfl
  | cons p r=>
    obtain ⟨p1,p2⟩:=p
    rw [List.map_cons]
    split <;> (cases p1 with
     | list l=>
       cases l with
       | nil=>cases h
       | cons _ _=>rfl
     | _=>rfl)
 ·cases kds with
  | nil=>rfl
  | cons p r=>
    obtain ⟨p1,p2⟩:=p
    cases p1 with
    | list l=>
      cases l with
      | nil=>cases h
      | cons _ _=>rfl
    | _=>rfl
theorem zbR {gd gk ge:DS->Option D} {δ:DS} {kds:List (D×D)} {c:Int×Int} {z:D} (h1:gd δ=some (.dict kds)) (h2:gk δ=some (dC c)) (h3:ge δ=some z) (hf:fnD kds=false:=by first | assumption | exact Dt.fn (by assumption)):gDgetD gd gk ge δ=some ((dLook kds [.inl c.1,.inl c.2]).getD z):=by
 unfold gDgetD; rw [h1,h2,h3]
 show (if fnD kds=true then none else _)=_
 rw [hf]; rfl
theorem zgV {gd gk:DS->Option D} {δ:DS} {kds:List (D×D)} {c:Int×Int} (h1:gd δ=some (.dict kds)) (h2:gk δ=some (dC c)) (hf:fnD kds=false:=by first | assumption | exact Dt.fn (by assumption)):gDget gd gk δ=dLook kds [.inl c.1,.inl c.2]:=by
 unfold gDget; rw [h1,h2]
 show (if fnD kds=true then none else _)=_
 rw [hf]; rfl
theorem zdK {i:Nat} {gk ge:DS->Option D} {δ:DS} {kds:List (D×D)} {c:Int×Int} {d:D} (h1:gVar i δ=some (.dict kds)) (h2:gk δ=some (dC c)) (h3:ge δ=some d) (h4:kds.length < 100000):gSetK i gk ge δ=some (.nx (δ.set i (some (.dict (dPutD kds [.inl c.1,.inl c.2] d))))):=by
 unfold gSetK; rw [h1,h2,h3]
 show (if kds.length < 100000 then _ else _)=_
 rw [if_pos h4]
theorem zj9 {b g x y:Int}:(([.inl b,.inl g]:List Key)=[.inl x,.inl y])↔b=x /\ g=y:=by simp
theorem for2 {t:D->DS->Option DS} {b:DS->Option Res} {d1 d2:D} {δ:DS} (δ1 δ2 δ3 δ4:DS) (h1:t d1 δ=some δ1) (h2:b δ1=some (.nx δ2)) (h3:t d2 δ2=some δ3) (h4:b δ3=some (.nx δ4)):forD t b [d1,d2] δ=some (.nx δ4):=by
 simp only [forD,h1,h2,h3,h4,Option.bind_some]
theorem Dt.put {kds:List (D×D)} {F:WF} (h:Dt kds F) (x y v:Int):Dt (dPutD kds [.inl x,.inl y] (.int v)) (fun b g=>if b=x /\ g=y then v else F b g):=by
 refine ⟨zkk h.fn,fun b g=>?_⟩
 show _=PyData.int (if b=x /\ g=y then v else F b g)
 rw [zhp]
 by_cases e:b=x /\ g=y
 ·rw [if_pos (zj9.mpr e),if_pos e]; rfl
 ·rw [if_neg (fun z=>e (zj9.mp z)),if_neg e]; exact h b g
end MyLaw
namespace MyLaw
open PySem L2 Q1
theorem zfF {i:Nat} {g:DS->Option (List D)} {δ:DS} {ds zs:List D} (h1:gVar i δ=some (.list ds)) (h2:g δ=some zs) (h3:ds.length + zs.length<=100000):gExt i g δ=some (.nx (δ.set i (some (.list (ds ++ zs))))):=by
 unfold gExt
 rw [h1,h2]
 show (if ds.length + zs.length<=100000 then _ else _)=_
 rw [if_pos h3]
theorem zla (p:List (List Int)):enumD (p.map dR)=p.zipIdx.map fun x=>.tuple [.int (x.2:Nat),dR x.1]:=by
 unfold enumD
 rw [List.zipIdx_map,List.map_map]
 rfl
theorem zgi {p:List (List Int)} (hl:p.length<=24) (h25:∀ r∈p,r.length<=25):zaQ [dPl p]=some ((cnts 0 p).map dC):=by
 rw [zgG]
 refine z5 ?_
 refine zH [some (dPl p),some (.list []),none,none] rfl ?_
 refine zdN (fun x:List Int×Nat=>PyData.tuple [.int (x.2:Nat),dR x.1]) p.zipIdx (fun i δ=>∃ a b,δ=[some (dPl p),some (.list ((cnts 0 (p.take i)).map dC)),a,b]) ?_ ⟨none,none,rfl⟩ ?_ ?_
 ·show some (enumD (p.map dR))=_
  rw [zla]
 ·rintro i ⟨r,n⟩ δ hi ⟨a,b,rfl⟩
  rw [List.getElem?_zipIdx] at hi
  cases er:p[i]? with
  | none=>rw [er] at hi; cases hi
  | some r'=>
    rw [er] at hi
    simp only [Option.map_some,Nat.zero_add,Option.some.injEq,Prod.mk.injEq] at hi
    obtain ⟨rfl,rfl⟩:=hi
    have hil:=(List.getElem?_eq_some_iff.mp er).1
    have hr:=h25 r' (List.mem_of_getElem? er)
    have ht:p.take (i + 1)=p.take i ++ [r']:=by
     rw [List.take_add_one,er]; rfl
    have hln:(p.take i).length=i:=by rw [List.length_take]; omega
    have hc0:=zds (p.take i) 0 fun s hs=>h25 s (List.mem_of_mem_take hs)
    refine ⟨_,[some (dPl p),some (.list ((cnts 0 (p.take (i + 1))).map dC)),some (.int (i:Nat)),some (dR r')],rfl,?_,_,_,rfl⟩
    have hc:gComp (gItems (gVar 3)) [2] (gTupD (gConsA (gVar 0) (gConsA (g2 dSub (gVar 1) (gVar 0)) gNilA))) [some (dPl p),some (.list ((cnts 0 (p.take i)).map dC)),some (.int (i:Nat)),some (dR r')]=some ((r'.map fun b=>(b,(i:Int) - b)).map dC):=
     zcS PyData.int dC (fun b=>(b,(i:Int) - b)) r' rfl (by omega) fun x _=>rfl
    refine (zfF rfl hc (by simp only [List.length_map]; omega)).trans ?_
    rw [ht,zbd,hln,Nat.zero_add,List.map_append]
    rfl
 ·rintro δ' ⟨a,b,rfl⟩
  refine ret (.list ((cnts 0 p).map dC)) ?_ (.mk rfl rfl)
  rw [List.length_zipIdx,List.take_length]
  rfl
theorem zj7 {a b:Str} (ha:PyData.strOk a=true) (hb:PyData.strOk b=true) {c:Bool} (hc:(a == b)=c):dEq (.str a) (.str b)=some (.bool c):=by
 unfold dEq
 simp [SeqAt.shaped,PyData.canLay0,PyData.depth,PyData.eqv,ha,hb,hc]
theorem zed (c:Int×Int):z6 [dC c,.str "b"]=some (dC (c.1 + 1,c.2)):=by
 rw [zif]
 exact z5 (zce true (zba (b:=true) (zk rfl rfl (zj7 (by decide +kernel) (by decide +kernel) (by decide +kernel)))) (fun _=>zcN (dC (c.1 + 1,c.2)) rfl (.mk rfl rfl)) fun z=>nomatch z)
theorem zdU (c:Int×Int):z6 [dC c,.str "g"]=some (dC (c.1,c.2 + 1)):=by
 rw [zif]
 exact z5 (zc4 (zba (b:=false) (zk rfl rfl (zj7 (by decide +kernel) (by decide +kernel) (by decide +kernel)))) (ret (dC (c.1,c.2 + 1)) rfl (.mk rfl rfl)))
theorem zfc {p:List (List Int)} (hl:p.length<=24) (h25:∀ r∈p,r.length<=25) (c:Int×Int):∃ kds,zaw [dPl p,dC c]=some (.dict kds) /\ Dt kds ((cnts 0 p).foldl stepF (beg0 c)):=by
 have hcl:=zds p 0 h25
 have main:Gets (zaw [dPl p,dC c]) fun d=>∃ kds,d=.dict kds /\ Dt kds ((cnts 0 p).foldl stepF (beg0 c)):=by
  rw [zeK]
  refine zH [some (dPl p),some (dC c),some (.dict [(dC c,.int 1)]),none,none,none] rfl ?_
  refine zdN dC (cnts 0 p) (fun i δ=>∃ kds a b e,δ=[some (dPl p),some (dC c),some (.dict kds),a,b,e] /\ Dt kds (((cnts 0 p).take i).foldl stepF (beg0 c)) /\ kds.length<=1 + 2 * i) ?_ ⟨_,_,_,_,rfl,?_,by simp⟩ ?_ ?_
  ·have ec:gLst (gCallN zaQ 1 (gConsA (gVar 0) gNilA)) [some (dPl p),some (dC c),some (.dict [(dC c,.int 1)]),none,none,none]=some (.list ((cnts 0 p).map dC)):=zO (zS (zf rfl rfl) rfl (zgi hl h25))
   unfold gItems
   rw [ec]
   rfl
  ·refine ⟨rfl,fun b g=>?_⟩
   have:dPutD [] [.inl c.1,.inl c.2] (.int 1)=[(dC c,.int 1)]:=rfl
   rw [<- this]
   exact (Dt.put (kds:=[]) (F:=fun _ _=>0) ⟨rfl,fun b g=>rfl⟩ c.1 c.2 1) b g
  ·rintro i k δ hi ⟨kds,a,b,e,rfl,hd,hlen⟩
   have hil:=(List.getElem?_eq_some_iff.mp hi).1
   obtain ⟨F,hF⟩:∃ F,F=((cnts 0 p).take i).foldl stepF (beg0 c):=⟨_,rfl⟩
   rw [<- hF] at hd
   have hnext:((cnts 0 p).take (i + 1)).foldl stepF (beg0 c)=stepF F k:=by
    rw [List.take_add_one,hi,List.foldl_append,<- hF]; rfl
   obtain ⟨k1,hk1⟩:∃ k1,k1=dPutD kds [.inl (k.1 + 1),.inl k.2] (.int (F (k.1 + 1) k.2 + F k.1 k.2)):=⟨_,rfl⟩
   have hd1:=hd.put (k.1 + 1) k.2 (F (k.1 + 1) k.2 + F k.1 k.2)
   rw [<- hk1] at hd1
   have hd2:=hd1.put k.1 (k.2 + 1) (F k.1 (k.2 + 1) + F k.1 k.2)
   have l1:k1.length<=kds.length + 1:=by rw [hk1]; exact zbO _ _ _
   have l2:=zbO k1 [.inl k.1,.inl (k.2 + 1)] (.int (F k.1 (k.2 + 1) + F k.1 k.2))
   refine ⟨_,[some (dPl p),some (dC c),some (.dict (dPutD k1 [.inl k.1,.inl (k.2 + 1)] (.int (F k.1 (k.2 + 1) + F k.1 k.2)))),some (dC k),some (.int (F k.1 k.2)),some (dC (k.1,k.2 + 1))],rfl,?_,_,_,_,_,rfl,?_,by omega⟩
   ·refine zai [some (dPl p),some (dC c),some (.dict kds),some (dC k),some (.int (F k.1 k.2)),e] (zQ ((zbR rfl rfl rfl).trans (congrArg some (hd k.1 k.2)))) ?_
    unfold gFor
    have hit:gItems (gTupD (gConsA (gCall z6 2 (gConsA (gVar 3) (gConsA (gC (.str "b")) gNilA))) (gConsA (gCall z6 2 (gConsA (gVar 3) (gConsA (gC (.str "g")) gNilA))) gNilA))) [some (dPl p),some (dC c),some (.dict kds),some (dC k),some (.int (F k.1 k.2)),e]=some [dC (k.1 + 1,k.2),dC (k.1,k.2 + 1)]:=by
     have e1:gCall z6 2 (gConsA (gVar 3) (gConsA (gC (.str "b")) gNilA)) [some (dPl p),some (dC c),some (.dict kds),some (dC k),some (.int (F k.1 k.2)),e]=some (dC (k.1 + 1,k.2)):=zao (zf rfl (zf rfl rfl)) rfl (zed k)
     have e2:gCall z6 2 (gConsA (gVar 3) (gConsA (gC (.str "g")) gNilA)) [some (dPl p),some (dC c),some (.dict kds),some (dC k),some (.int (F k.1 k.2)),e]=some (dC (k.1,k.2 + 1)):=zao (zf rfl (zf rfl rfl)) rfl (zdU k)
     unfold gItems gTupD
     rw [zf e1 (zf e2 rfl)]
     rfl
    rw [hit,Option.bind_some]
    refine for2 [some (dPl p),some (dC c),some (.dict kds),some (dC k),some (.int (F k.1 k.2)),some (dC (k.1 + 1,k.2))] [some (dPl p),some (dC c),some (.dict k1),some (dC k),some (.int (F k.1 k.2)),some (dC (k.1 + 1,k.2))] [some (dPl p),some (dC c),some (.dict k1),some (dC k),some (.int (F k.1 k.2)),some (dC (k.1,k.2 + 1))] _ rfl ?_ rfl ?_
    ·refine (zdK (c:=(k.1 + 1,k.2)) rfl rfl (zk ((zbR (c:=(k.1 + 1,k.2)) rfl rfl rfl).trans (congrArg some (hd (k.1 + 1) k.2))) rfl rfl) (by omega)).trans ?_
     rw [hk1]; rfl
    ·have h5:(dLook k1 [.inl k.1,.inl (k.2 + 1)]).getD (.int 0)=.int (F k.1 (k.2 + 1)):=by
      have:=hd1 k.1 (k.2 + 1)
      rw [this]
      show PyData.int (if k.1=k.1 + 1 /\ k.2 + 1=k.2 then _ else _)=_
      rw [if_neg (by omega)]
     exact zdK (c:=(k.1,k.2 + 1)) rfl rfl (zk ((zbR (c:=(k.1,k.2 + 1)) rfl rfl rfl).trans (congrArg some h5)) rfl rfl) (by omega)
   ·rw [hnext]
    refine ⟨hd2.fn,fun x y=>?_⟩
    rw [hd2 x y]
    congr 1
    show (if x=k.1 /\ y=k.2 + 1 then _ else if x=k.1 + 1 /\ y=k.2 then _ else F x y)=F x y + _ + _
    by_cases c1:x=k.1 /\ y=k.2 + 1
    ·rw [if_pos c1,if_pos c1,if_neg (by omega),c1.1,c1.2]; omega
    ·rw [if_neg c1,if_neg c1]
     by_cases c2:x=k.1 + 1 /\ y=k.2
     ·rw [if_pos c2,if_pos c2,c2.1,c2.2]; omega
     ·rw [if_neg c2,if_neg c2]; omega
  ·rintro δ' ⟨kds,a,b,e,rfl,hd,_⟩
   rw [List.take_length] at hd
   exact ret (.dict kds) rfl (.mk rfl ⟨kds,rfl,hd⟩)
 obtain ⟨_,e,kds,rfl,hd⟩:=main
 exact ⟨kds,e,hd⟩
noncomputable def A0:Int->Int:=fun b=>if b=0 then 1 else 0
theorem ziV {p:List (List Int)} (h:Pl p) {x y:Int} {k:Nat} (e:x + y=(k:Int)):(cnts 0 p).foldl stepF (beg0 (0,0)) x y=WW A0 p k x:=by
 refine (zdH p 0 A0 (beg0 (0,0)) (zgU h).1 ?_ ?_ x y).2 k (by push_cast; omega)
 ·intro x y q
  unfold beg0 A0
  by_cases c:x=0
  ·rw [if_pos ⟨c,by push_cast at q; show y=0; omega⟩,if_pos c]
  ·rw [if_neg (fun z=>c z.1),if_neg c]
 ·intro x y q
  unfold beg0
  rw [if_neg]
  rintro ⟨z1,z2⟩
  have z1':x=0:=z1
  have z2':y=0:=z2
  push_cast at q
  omega
end MyLaw
namespace MyLaw
open PySem L2 Q1
theorem zij {α β:Type} (enc:α->D) (enc':β->D) (h:α->β) (P:α->Bool) {f:D->Option (Option D)}:∀ l:List α,(∀ a∈l,f (enc a)=some (if P a=true then some (enc' (h a)) else none))->fltD f (l.map enc)=some (((l.filter P).map h).map enc')
 | [],_=>rfl
 | a :: l,q=>by
   have ih:=zij enc enc' h P l fun b hb=>q b (List.mem_cons_of_mem _ hb)
   rw [List.map_cons,fltD,q a List.mem_cons_self,Option.bind_some,ih,Option.bind_some,List.filter_cons]
   cases P a <;> rfl
theorem zfw {α β:Type} (enc:α->D) (enc':β->D) (h:α->β) (P:α->Bool) {gi:DS->Option (List D)} {ix:List Nat} {gc:DS->Option Bool} {ge:DS->Option D} {δ:DS} (l:List α) (hi:gi δ=some (l.map enc)) (hl:l.length<=100000)
  (hc:∀ a∈l,gc (some (enc a) :: captD ix δ)=some (P a)) (he:∀ a∈l,P a=true->ge (some (enc a) :: captD ix δ)=some (enc' (h a))):gCompL gi 1 ix (gName' 0) gc ge δ=some (((l.filter P).map h).map enc'):=by
 unfold gCompL
 rw [hi,Option.bind_some,if_pos (by rw [List.length_map]; exact hl)]
 refine zij enc enc' h P l fun a ha=>?_
 show (Option.bind (some (some (enc a) :: captD ix δ)) _)=_
 rw [Option.bind_some,hc a ha,Option.bind_some]
 cases q:P a with
 | true=>rw [if_pos rfl,if_pos rfl,he a ha q]; rfl
 | false=>rfl
theorem zkQ {f f':D->D->Option D} {a b c:DS->Option D} {δ:DS} {x y w:D} {u v:Bool} (h1:a δ=some x) (h2:b δ=some y) (h3:f x y=some (.bool u)) (h4:c δ=some w) (h5:f' y w=some (.bool v)):gChain f f' a b c δ=some (.bool (u && v)):=by
 unfold gChain
 rw [h1,h2]
 simp only [Option.bind_some,h3]
 cases u with
 | true=>simp only [h4,Option.bind_some,h5,Bool.true_and]
 | false=>rfl
theorem zjz {r:List Int} (h:r.length < 32):zbi [dR r]=some ((led r).map .int):=by
 rw [ziQ]
 exact z5 (ret (.list ((led r).map .int)) (zO (zgR (a:=gLst (gB1N dListN (gConsA (gVar 0) gNilA))) (b:=gVar 0) (r:=r) rfl (.inr rfl) h)) (.mk rfl rfl))
noncomputable def goB (p:List (List Int)) (c:Int×Int):Bool:=(decide (0<=c.1 + c.2) && decide (c.1 + c.2 < (p.length:Int))) && decide (c.1∈p.getD (c.1 + c.2).toNat [])
theorem zbI (p:List (List Int)) (c:Int×Int):zaE [dPl p,dC c]=some (.bool (goB p c)):=by
 rw [zhu]
 refine z5 ?_
 refine zH [some (dPl p),some (dC c),some (.int (c.1 + c.2))] rfl ?_
 refine ret (.bool (goB p c)) ?_ (.mk rfl rfl)
 refine zl7 (x:=decide (0<=c.1 + c.2) && decide (c.1 + c.2 < (p.length:Int))) ?_ fun h=>?_
 ·have e2:dLt (.int (c.1 + c.2)) (.int (((p.map dR).length:Nat):Int))=some (.bool (decide (c.1 + c.2 < (p.length:Int)))):=by
   rw [List.length_map]; rfl
  exact zkQ rfl rfl rfl rfl e2
 ·rw [Bool.and_eq_true,decide_eq_true_eq,decide_eq_true_eq] at h
  exact zk rfl (zk rfl rfl (zjD h.1 h.2)) zh4
theorem zbv:∀ (p:List (List Int)) (n:Nat),(∀ r∈p,r.length<=50)->(cnts n p).length<=50 * p.length
 | [],_,_=>by simp [cnts]
 | r :: p,n,h=>by
   have h1:=zbv p (n + 1) fun s hs=>h s (List.mem_cons_of_mem _ hs)
   have h2:=h r List.mem_cons_self
   rw [cnts,List.length_append,List.length_cons,rowC,List.length_map]
   omega
theorem zjF (p:List (List Int)):enumS (p.map dR)=(p.zipIdx 1).map fun x=>.tuple [.int (x.2:Nat),dR x.1]:=by
 unfold enumS
 rw [List.zipIdx_map,List.map_map]
 rfl
theorem zh2 (x:Int):∀ l:List Int,(ins x l).length<=l.length + 1
 | []=>by simp [ins]
 | y :: l=>by
   have:=zh2 x l
   rw [ins]
   split
   ·simp
   ·split
    ·simp
    ·simp only [List.length_cons]; omega
theorem zj8:∀ l:List Int,(ss l).length<=l.length
 | []=>by simp [ss]
 | x :: l=>by
   have h1:=zj8 l
   have h2:=zh2 x (ss l)
   rw [ss,List.length_cons]; omega
theorem zbF {r:List Int}:(led r).length<=2 * r.length:=by
 have h:((led r):List Int).length<=(r ++ r.map (· + 1)).length:=zj8 _
 rw [List.length_append,List.length_map] at h
 omega
theorem zh0 {p:List (List Int)} (hl:p.length<=24) (h25:∀ r∈p,r.length<=25):zaZ [dPl p]=some (((0,0) :: cnts 1 (p.map led)).map dC):=by
 rw [zik]
 refine z5 ?_
 refine zH [some (dPl p),some (.list [dC (0,0)]),none,none] rfl ?_
 refine zdN (fun x:List Int×Nat=>PyData.tuple [.int (x.2:Nat),dR x.1]) (p.zipIdx 1) (fun i δ=>∃ a b,δ=[some (dPl p),some (.list (((0,0) :: cnts 1 ((p.take i).map led)).map dC)),a,b]) ?_ ⟨none,none,rfl⟩ ?_ ?_
 ·show some (enumS (p.map dR))=_
  rw [zjF]
 ·rintro i ⟨r,n⟩ δ hi ⟨a,b,rfl⟩
  rw [List.getElem?_zipIdx] at hi
  cases er:p[i]? with
  | none=>rw [er] at hi; cases hi
  | some r'=>
    rw [er] at hi
    simp only [Option.map_some,Option.some.injEq,Prod.mk.injEq] at hi
    obtain ⟨rfl,rfl⟩:=hi
    have hil:=(List.getElem?_eq_some_iff.mp er).1
    have hr:=h25 r' (List.mem_of_getElem? er)
    have ht:p.take (i + 1)=p.take i ++ [r']:=by
     rw [List.take_add_one,er]; rfl
    have hln:(p.take i).length=i:=by rw [List.length_take]; omega
    have hll:(led r').length<=50:=by have:=zbF (r:=r'); omega
    have hcl:(cnts 1 ((p.take i).map led)).length<=1200:=by
     have:=zbv ((p.take i).map led) 1 (fun s hs=>by
      obtain ⟨t,ht,rfl⟩:=List.mem_map.mp hs
      have:=zbF (r:=t)
      have:=h25 t (List.mem_of_mem_take ht)
      omega)
     rw [List.length_map,hln] at this
     omega
    refine ⟨_,[some (dPl p),some (.list (((0,0) :: cnts 1 ((p.take (i + 1)).map led)).map dC)),some (.int ((1 + i:Nat):Int)),some (dR r')],rfl,?_,_,_,rfl⟩
    have hc:gComp (gItems (gLst (gCallN zbi 1 (gConsA (gVar 3) gNilA)))) [2] (gTupD (gConsA (gVar 0) (gConsA (g2 dSub (gVar 1) (gVar 0)) gNilA))) [some (dPl p),some (.list (((0,0) :: cnts 1 ((p.take i).map led)).map dC)),some (.int ((1 + i:Nat):Int)),some (dR r')]=some (((led r').map fun b=>(b,((1 + i:Nat):Int) - b)).map dC):=by
     refine zcS PyData.int dC (fun b=>(b,((1 + i:Nat):Int) - b)) (led r') ?_ (by omega) fun x _=>rfl
     have ec:gLst (gCallN zbi 1 (gConsA (gVar 3) gNilA)) [some (dPl p),some (.list (((0,0) :: cnts 1 ((p.take i).map led)).map dC)),some (.int ((1 + i:Nat):Int)),some (dR r')]=some (.list ((led r').map .int)):=zO (zS (zf rfl rfl) rfl (zjz (by omega)))
     unfold gItems
     rw [ec]
     rfl
    refine (zfF rfl hc (by simp only [List.length_map,List.length_cons]; omega)).trans ?_
    have key:cnts 1 ((p.take (i + 1)).map led)=cnts 1 ((p.take i).map led) ++ rowC (1 + i) (led r'):=by
     rw [ht,List.map_append,show List.map led [r']=[led r'] from rfl,zbd,List.length_map,hln]
    simp only [key,List.map_cons,List.map_append,List.cons_append]
    rfl
 ·rintro δ' ⟨a,b,rfl⟩
  refine ret (.list (((0,0) :: cnts 1 (p.map led)).map dC)) ?_ (.mk rfl rfl)
  rw [List.length_zipIdx,List.take_length]
  rfl
noncomputable def endsL (p:List (List Int)):List (Int×Int):=((0,0) :: cnts 1 (p.map led)).filter fun c=> !goB p c
theorem zlr {p:List (List Int)} (hl:p.length<=24) (h25:∀ r∈p,r.length<=25):zdd [dPl p]=some ((endsL p).map dC):=by
 rw [zmv]
 have hcl:(cnts 1 (p.map led)).length<=1200:=by
  have:=zbv (p.map led) 1 (fun s hs=>by
   obtain ⟨t,ht,rfl⟩:=List.mem_map.mp hs
   have:=zbF (r:=t)
   have:=h25 t ht
   omega)
  rw [List.length_map] at this
  omega
 have hc:gCompL (gItems (gLst (gCallN zaZ 1 (gConsA (gVar 0) gNilA)))) 1 [0] (gName' 0) (gNot (gTru (gCall zaE 2 (gConsA (gVar 1) (gConsA (gVar 0) gNilA))))) (gVar 0) [some (dPl p)]=some (((((0,0) :: cnts 1 (p.map led)).filter fun c=> !goB p c).map id).map dC):=by
  refine zfw dC dC id (fun c=> !goB p c) ((0,0) :: cnts 1 (p.map led)) ?_ (by simp only [List.length_cons]; omega) (fun c _=>?_) fun c _ _=>rfl
  ·have ec:gLst (gCallN zaZ 1 (gConsA (gVar 0) gNilA)) [some (dPl p)]=some (.list (((0,0) :: cnts 1 (p.map led)).map dC)):=zO (zS (zf rfl rfl) rfl (zh0 hl h25))
   unfold gItems
   rw [ec]
   rfl
  ·exact zbW (zdJ (zao (zf rfl (zf rfl rfl)) rfl (zbI p c)))
 rw [List.map_id] at hc
 exact z5 (ret (.list ((endsL p).map dC)) (zO hc) (.mk rfl rfl))
noncomputable def goB' (p:List (List Int)) (c:Int×Int):Bool:=(decide (0<=c.1 + c.2) && decide (c.1 + c.2 < (p.length:Int))) && decide (c.1∈p.getD (c.1 + c.2).toNat [])
theorem zku (p:List (List Int)) (n:Nat) (b:Int):goB' p (b,(n:Int) - b)=decide (b∈p.getD n []):=by
 unfold goB'
 simp only
 rw [show b + ((n:Int) - b)=(n:Int) by omega,Int.toNat_natCast,decide_eq_true (show (0:Int)<=(n:Int) by omega),Bool.true_and]
 rcases Nat.lt_or_ge n p.length with q | q
 ·rw [decide_eq_true (show (n:Int) < (p.length:Int) by omega),Bool.true_and]
 ·rw [decide_eq_false (show ¬ (n:Int) < (p.length:Int) by omega),Bool.false_and,List.getD_eq_getElem?_getD,List.getElem?_eq_none q]
  simp
theorem zcR {L:Nat} (h:L<=24): -100000<=((L:Nat):Int) + 1 /\ ((L:Nat):Int) + 1<=100000 /\ ((((L:Nat):Int) + 1) - 1).toNat=L:=⟨by omega,by omega,by omega⟩
theorem zkg {N:Int} {i L:Nat} (h:N=1 + (i:Int)) (hi:i < L):0<=N /\ N.toNat=i + 1 /\ 0<=N - 1 /\ N - 1 < (L:Int) /\ (N - 1).toNat=i /\ (¬ N < (L:Int)->L<=i + 1):=⟨by omega,by omega,by omega,by omega,by omega,fun _=>by omega⟩
theorem zkB {a b i L:Nat} (h1:a<=50 * i) (h2:b<=a) (hi:i < L) (hL:L<=24):b<=1200:=by omega
theorem zfh {l r f:Nat} (h:l<=2 * r) (hr:r<=25):l<=50 /\ r < 32 /\ (f<=l->∀ a,a<=1200->a + f<=100000):=⟨by omega,by omega,fun _ _ _=>by omega⟩
theorem zgx {p:List (List Int)} (hl:p.length<=24) (h25:∀ r∈p,r.length<=25):zag [dPl p]=some (((cnts 1 (p.map led)).filter fun c=> !goB' p c).map dC):=by
 rw [zf7]
 refine z5 ?_
 refine zH [some (dPl p),some (.list []),none,none,none] rfl ?_
 refine zco 1 p.length (fun i δ=>∃ a b c,δ=[some (dPl p),some (.list (((cnts 1 ((p.take i).map led)).filter fun c=> !goB' p c).map dC)),a,b,c]) ?_ ⟨none,none,none,rfl⟩ ?_ ?_
 ·have e:gConsA (gC (.int (1))) (gConsA (g2 dAddV (gB1 dLen (gConsA (gVar 0) gNilA)) (gC (.int (1)))) gNilA) [some (dPl p),some (.list []),none,none,none]=some [.int 1,.int (((p.length:Nat):Int) + 1)]:=by
   show some [PyData.int 1,PyData.int ((((p.map dR).length:Nat):Int) + 1)]=_
   rw [List.length_map]
  refine (zii e (by decide) (by decide) (zcR hl).1 (zcR hl).2.1).trans ?_
  rw [(zcR hl).2.2]
 ·rintro i δ hi ⟨a,b,c,rfl⟩
  obtain ⟨r,er⟩:∃ r,p[i]?=some r:=⟨_,List.getElem?_eq_getElem hi⟩
  have hr:=h25 r (List.mem_of_getElem? er)
  have ht:p.take (i + 1)=p.take i ++ [r]:=by rw [List.take_add_one,er]; rfl
  have hln:(p.take i).length=i:=by rw [List.length_take]; exact Nat.min_eq_left (Nat.le_of_lt hi)
  obtain ⟨acc,hacc⟩:∃ acc,acc=((cnts 1 ((p.take i).map led)).filter fun c=> !goB' p c).map dC:=⟨_,rfl⟩
  rw [<- hacc]
  have haccl:acc.length<=1200:=by
   have h1:=zbv ((p.take i).map led) 1 (fun s hs=>by
    obtain ⟨t,ht,rfl⟩:=List.mem_map.mp hs
    exact (zfh (f:=0) (zbF (r:=t)) (h25 t (List.mem_of_mem_take ht))).1)
   rw [List.length_map,hln] at h1
   have h2:=List.length_filter_le (fun c=> !goB' p c) (cnts 1 ((p.take i).map led))
   rw [hacc,List.length_map]
   exact zkB h1 h2 hi hl
  obtain ⟨hll,h32,_⟩:=zfh (f:=0) (zbF (r:=r)) hr
  obtain ⟨N,hN⟩:∃ N:Int,N=1 + (i:Int):=⟨_,rfl⟩
  obtain ⟨m1,m2,m3,m4,m5,m6⟩:=zkg hN hi
  rw [<- hN]
  obtain ⟨on,hon⟩:∃ on,on=p.getD (i + 1) []:=⟨_,rfl⟩
  have st:gIf (gB (g2 dLt (gVar 2) (gB1 dLen (gConsA (gVar 0) gNilA)))) (gSet 3 (g2 dIx (gVar 0) (gVar 2))) gSkip [some (dPl p),some (.list acc),some (.int N),some (.tuple []),c]=some (.nx [some (dPl p),some (.list acc),some (.int N),some (dR on),c]):=by
   have hc:gB (g2 dLt (gVar 2) (gB1 dLen (gConsA (gVar 0) gNilA))) [some (dPl p),some (.list acc),some (.int N),some (.tuple []),c]=some (decide (N < (p.length:Int))):=by
    refine zba ?_
    show some (PyData.bool (decide (N < (((p.map dR).length:Nat):Int))))=_
    rw [List.length_map]
   by_cases q:N < (p.length:Int)
   ·refine zcu true (hc.trans (congrArg some (decide_eq_true q))) (fun _=>?_) fun z=>nomatch z
    refine (zQ (zk rfl rfl (zjD m1 q))).trans ?_
    rw [m2,<- hon]
    rfl
   ·refine zcu false (hc.trans (congrArg some (decide_eq_false q))) (fun z=>nomatch z) fun _=>?_
    have:on=[]:=by rw [hon,List.getD_eq_getElem?_getD,List.getElem?_eq_none (m6 q)]; rfl
    rw [this]; rfl
  have ix:g2 dIx (gVar 0) (g2 dSub (gVar 2) (gC (.int (1)))) [some (dPl p),some (.list acc),some (.int N),some (dR on),c]=some (dR r):=by
   refine (zk rfl rfl (zjD (p:=p) (i:=N - 1) m3 m4)).trans ?_
   rw [m5,List.getD_eq_getElem?_getD,er]
   rfl
  have ss4:=zgR (a:=gLst (gB1N dListN (gConsA (g2 dIx (gVar 0) (g2 dSub (gVar 2) (gC (.int (1))))) gNilA))) (b:=g2 dIx (gVar 0) (g2 dSub (gVar 2) (gC (.int (1))))) (δ:=[some (dPl p),some (.list acc),some (.int N),some (dR on),c]) (r:=r) (by
   unfold gLst gB1N
   rw [zf ix rfl]
   rfl) (.inr ix) h32
  refine ⟨_,[some (dPl p),some (.list (((cnts 1 ((p.take (i + 1)).map led)).filter fun c=> !goB' p c).map dC)),some (.int N),some (dR on),some (.list ((led r).map .int))],rfl,?_,_,_,_,rfl⟩
  refine zai [some (dPl p),some (.list acc),some (.int N),some (.tuple []),c] rfl ?_
  refine zai _ st ?_
  refine zai [some (dPl p),some (.list acc),some (.int N),some (dR on),some (.list ((led r).map .int))] (zQ (zO ss4)) ?_
  have hcp:gCompL (gItems (gVar 4)) 1 [2,3] (gName' 0) (gB (g2 dNotIn (gVar 0) (gVar 2))) (gTupD (gConsA (gVar 0) (gConsA (g2 dSub (gVar 1) (gVar 0)) gNilA))) [some (dPl p),some (.list acc),some (.int N),some (dR on),some (.list ((led r).map .int))]=some ((((led r).filter fun b=> !decide (b∈on)).map fun b=>(b,N - b)).map dC):=by
   refine zfw PyData.int dC (fun b=>(b,N - b)) (fun b=> !decide (b∈on)) (led r) rfl (Nat.le_trans hll (by decide)) (fun b _=>?_) fun b _ _=>rfl
   refine zba (zk rfl rfl ?_)
   unfold dNotIn
   rw [zh4]
   rfl
  refine (zfF rfl hcp (by simp only [List.length_map]; exact (zfh (zbF (r:=r)) hr).2.2 (List.length_filter_le (fun b=> !decide (b∈on)) (led r)) _ haccl)).trans ?_
  have key:((cnts 1 ((p.take (i + 1)).map led)).filter fun c=> !goB' p c).map dC=acc ++ (((led r).filter fun b=> !decide (b∈on)).map fun b=>(b,N - b)).map dC:=by
   rw [ht,List.map_append,show List.map led [r]=[led r] from rfl,zbd,List.length_map,hln,List.filter_append,List.map_append,<- hacc]
   congr 2
   unfold rowC
   rw [List.filter_map]
   have ef:((fun c:Int×Int=> !goB' p c) ∘ fun b:Int=>(b,((1 + i:Nat):Int) - b))=fun b=> !decide (b∈on):=by
    funext b
    show (!goB' p (b,((1 + i:Nat):Int) - b))=_
    rw [zku,hon,Nat.add_comm 1 i]
   rw [ef]
   congr 1
   funext b
   rw [hN]
   push_cast
   rfl
  rw [key]
  rfl
 ·rintro δ' ⟨a,b,c,rfl⟩
  refine ret (.list (((cnts 1 (p.map led)).filter fun c=> !goB' p c).map dC)) ?_ (.mk rfl rfl)
  rw [List.take_length]
  rfl
end MyLaw
namespace MyLaw
open PySem L2 Q1
theorem zlH {gi:DS->Option (List D)} {t:D->DS->Option DS} {b:DS->Option Res} {δ:DS} {ds:List D} {r:Option Res} (h1:gi δ=some ds) (h2:forD t b ds δ=r):gFor gi t b δ=r:=by unfold gFor; rw [h1]; exact h2
theorem zmP {A:Int->Int} {r:List Int} (h:∀ x,0<=A x) (b:Int):0<=lv A r b:=by
 have h1:=h (b - 1)
 have h2:=h b
 unfold lv
 split <;> split <;> omega
theorem zkT {p:List (List Int)} {A:Int->Int} (h:∀ x,0<=A x):∀ (k:Nat) (b:Int),0<=WW A p k b
 | 0,b=>by rw [WW_0]; exact h b
 | k + 1,b=>by rw [zca]; exact zmP (zkT h k) b
theorem zlz (x:Int):0<=A0 x:=by unfold A0; split <;> omega
theorem zjR {A:Int->Int} {r:List Int} (h:∀ x,0<=A x) (hr:∀ x∈r,0 < A x) {b:Int} (hb:b∈led r):0 < lv A r b:=by
 have h1:=h (b - 1)
 have h2:=h b
 unfold lv
 rcases zb3.mp hb with z | z
 ·have:=hr b z
  rw [if_pos z]; split <;> omega
 ·have:=hr _ z
  rw [if_pos z]; split <;> omega
theorem zho:∀ {q:List (List Int)} {r:List Int},Chn r q->∀ k x,x∈(r :: q).getD (k + 1) []->x∈led ((r :: q).getD k [])
 | [],_,_,k,x,hx=>by simp at hx
 | s :: q,r,hc,0,x,hx=>hc.1.2.2 x (by simpa using hx)
 | s :: q,r,hc,k + 1,x,hx=>by
   have:=zho hc.2 k x (by simpa using hx)
   simpa using this
theorem zmq {p:List (List Int)} (h:Pl p) (k:Nat) (x:Int) (hx:x∈p.getD (k + 1) []):x∈led (p.getD k []):=by
 obtain ⟨q,rfl,hc⟩:=h.ex
 exact zho hc k x hx
theorem zid {p:List (List Int)} (h:Pl p):∀ (k:Nat) (x:Int),x∈p.getD k []->0 < WW A0 p k x
 | 0,x,hx=>by
   obtain ⟨q,rfl,hc⟩:=h.ex
   rw [WW_0]
   have:x=0:=by simpa using hx
   subst this; decide
 | k + 1,x,hx=>by
   rw [zca]
   exact zjR (zkT zlz k) (zid h k) (zmq h k x hx)
theorem zmt {p:List (List Int)} (h:Pl p) (k:Nat) (x:Int) (hx:x∈led (p.getD k [])):0 < WW A0 p (k + 1) x:=by
 rw [zca]
 exact zjR (zkT zlz k) (zid h k) hx
theorem zg3 {A:Int->Int} {p q:List (List Int)}:∀ (k:Nat),(∀ j,j < k->p.getD j []=q.getD j [])->WW A p k=WW A q k
 | 0,_=>by rw [WW_0,WW_0]
 | k + 1,h=>by
   funext b
   rw [zca,zca,h k (by omega),zg3 k fun j hj=>h j (by omega)]
theorem Dt.get {kds:List (D×D)} {F:WF} (h:Dt kds F) {b g:Int} (hp:F b g≠0):dLook kds [.inl b,.inl g]=some (.int (F b g)):=by
 have:=h b g
 cases e:dLook kds [.inl b,.inl g] with
 | none=>rw [e] at this; exact absurd (by injection this with z; exact z.symm) hp
 | some d=>rw [e] at this; rw [show d=.int (F b g) from this]
noncomputable def waysF (p:List (List Int)):WF:=(cnts 0 p).foldl stepF (beg0 (0,0))
theorem zfN {p:List (List Int)} (h:Pl p) {x y:Int} {k:Nat} (e:x + y=(k:Int)):waysF p x y=WW A0 p k x:=ziV h e
theorem zhq {p:List (List Int)} (h:Pl p) {n:Nat} {bs cs:List Int} (hr:p[n]?=some (bs ++ cs)) {x y:Int} (e:x + y=(n:Int)):(rowC n bs).foldl stepF ((cnts 0 (p.take n)).foldl stepF (beg0 (0,0))) x y=WW A0 p n x:=by
 have hn:=(List.getElem?_eq_some_iff.mp hr).1
 have hl:(p.take n).length=n:=by rw [List.length_take]; omega
 have e1:(rowC n bs).foldl stepF ((cnts 0 (p.take n)).foldl stepF (beg0 (0,0)))=(cnts 0 (p.take n ++ [bs])).foldl stepF (beg0 (0,0)):=by
  rw [zbd,List.foldl_append,hl,Nat.zero_add]
 rw [e1]
 have nd:=(zgU h).1
 have hnd:∀ s∈p.take n ++ [bs],s.Nodup:=by
  intro s hs
  rcases List.mem_append.mp hs with z | z
  ·exact nd s (List.mem_of_mem_take z)
  ·rw [List.mem_singleton.mp z]
   have:=nd _ (List.mem_of_getElem? hr)
   exact (List.nodup_append.mp this).1
 refine ((zdH (p.take n ++ [bs]) 0 A0 (beg0 (0,0)) hnd ?_ ?_ x y).2 n (by push_cast; omega)).trans ?_
 ·intro x y q
  unfold beg0 A0
  by_cases c:x=0
  ·rw [if_pos ⟨c,by push_cast at q; show y=0; omega⟩,if_pos c]
  ·rw [if_neg (fun z=>c z.1),if_neg c]
 ·intro x y q
  unfold beg0
  rw [if_neg]
  rintro ⟨z1,z2⟩
  have z1':x=0:=z1
  have z2':y=0:=z2
  push_cast at q
  omega
 ·rw [zg3 (q:=p) n fun j hj=>?_]
  rw [List.getD_eq_getElem?_getD,List.getD_eq_getElem?_getD,List.getElem?_append_left (by omega),List.getElem?_take_of_lt hj]
theorem zjf (p:List (List Int)):enumD (p.map dR)=p.zipIdx.map fun x=>.tuple [.int (x.2:Nat),dR x.1]:=by
 unfold enumD
 rw [List.zipIdx_map,List.map_map]
 rfl
theorem wl1 {x y z n j:Nat} (l2:x<=y + 1) (l1:y<=z + 1) (h:z<=n + 2 * j):x<=n + 2 * (j + 1):=by omega
theorem wl2 {z i j L r:Nat} (h:z<=1 + 50 * i + 2 * j) (hi:i < L) (hL:L<=24) (hj:j < r) (hr:r<=25):z + 1 < 100000:=by omega
theorem zf6 {p:List (List Int)} (hp:Pl p) (hl:p.length<=24) (h25:∀ r∈p,r.length<=25):∃ kds,zar [dPl p]=some (.dict kds) /\ Dt kds (waysF p):=by
 have main:Gets (zar [dPl p]) fun d=>∃ kds,d=.dict kds /\ Dt kds (waysF p):=by
  rw [zgo]
  refine zH [some (dPl p),some (.dict [(dC (0,0),.int 1)]),none,none,none,none,none] rfl ?_
  refine zdN (fun x:List Int×Nat=>PyData.tuple [.int (x.2:Nat),dR x.1]) p.zipIdx (fun i δ=>∃ kds a b c d e,δ=[some (dPl p),some (.dict kds),a,b,c,d,e] /\ Dt kds ((cnts 0 (p.take i)).foldl stepF (beg0 (0,0))) /\ kds.length<=1 + 50 * i) ?_ ⟨_,_,_,_,_,_,rfl,?_,by simp⟩ ?_ ?_
  ·show some (enumD (p.map dR))=_
   rw [zjf]
  ·refine ⟨rfl,fun b g=>?_⟩
   have:dPutD [] [.inl 0,.inl 0] (.int 1)=[(dC (0,0),.int 1)]:=rfl
   rw [<- this]
   exact (Dt.put (kds:=[]) (F:=fun _ _=>0) ⟨rfl,fun b g=>rfl⟩ 0 0 1) b g
  ·rintro i ⟨r,n⟩ δ hi ⟨kds,a,b,c,d,e,rfl,hd,hlen⟩
   rw [List.getElem?_zipIdx] at hi
   cases er:p[i]? with
   | none=>rw [er] at hi; cases hi
   | some r'=>
   rw [er] at hi
   simp only [Option.map_some,Nat.zero_add,Option.some.injEq,Prod.mk.injEq] at hi
   obtain ⟨rfl,rfl⟩:=hi
   have hil:=(List.getElem?_eq_some_iff.mp er).1
   have hrl:=h25 r' (List.mem_of_getElem? er)
   have ht:p.take (i + 1)=p.take i ++ [r']:=by rw [List.take_add_one,er]; rfl
   have hln:(p.take i).length=i:=by rw [List.length_take]; omega
   obtain ⟨G,hG⟩:∃ G,G=(cnts 0 (p.take i)).foldl stepF (beg0 (0,0)):=⟨_,rfl⟩
   rw [<- hG] at hd
   obtain ⟨δ',e2,kds2,c2,d2,e2',rfl,hd2,hlen2⟩:=zeV (t:=gName' 4)
    (b:=(gSeq (gSet 5 (gDget (gVar 1) (gTupD (gConsA (gVar 4) (gConsA (g2 dSub (gVar 2) (gVar 4)) gNilA)))))
     (gFor (gItems (gTupD (gConsA (gTupD (gConsA (g2 dAddV (gVar 4) (gC (.int (1)))) (gConsA (g2 dSub (gVar 2) (gVar 4)) gNilA))) (gConsA (gTupD (gConsA (gVar 4) (gConsA (g2 dAddV (g2 dSub (gVar 2) (gVar 4)) (gC (.int (1)))) gNilA))) gNilA)))) (gName' 6)
      (gSetK 1 (gVar 6) (g2 dAddV (gDgetD (gVar 1) (gVar 6) (gC (.int (0)))) (gVar 5)))))) PyData.int
    (fun j δ=>∃ kds c d e,δ=[some (dPl p),some (.dict kds),some (.int (i:Nat)),some (dR r'),c,d,e] /\ Dt kds ((rowC i (r'.take j)).foldl stepF G) /\ kds.length<=1 + 50 * i + 2 * j) r' (δ:=[some (dPl p),some (.dict kds),some (.int (i:Nat)),some (dR r'),c,d,e]) ⟨kds,c,d,e,rfl,hd,by omega⟩ (by
     rintro j x δ hj ⟨kds,c,d,e,rfl,hd,hlen⟩
     have hjl:=(List.getElem?_eq_some_iff.mp hj).1
     have hxr:x∈r':=List.mem_of_getElem? hj
     obtain ⟨F,hF⟩:∃ F,F=(rowC i (r'.take j)).foldl stepF G:=⟨_,rfl⟩
     rw [<- hF] at hd
     obtain ⟨k,hk⟩:∃ k:Int×Int,k=(x,(i:Int) - x):=⟨_,rfl⟩
     have hnext:(rowC i (r'.take (j + 1))).foldl stepF G=stepF F k:=by
      rw [List.take_add_one,hj]
      unfold rowC at hF ⊢
      rw [List.map_append,List.foldl_append,<- hF,hk]; rfl
     have hval:F k.1 k.2=WW A0 p i x:=by
      rw [hF,hG,hk]
      exact zhq hp (cs:=r'.drop j) (by rw [List.take_append_drop]; exact er) (by show x + ((i:Int) - x)=_; omega)
     have hpos:F k.1 k.2≠0:=by
      have:=zid hp i x (by rw [List.getD_eq_getElem?_getD,er]; exact hxr)
      omega
     have hx1:x=k.1:=by rw [hk]
     have hx2:(i:Int) - x=k.2:=by rw [hk]
     obtain ⟨k1,hk1⟩:∃ k1,k1=dPutD kds [.inl (k.1 + 1),.inl k.2] (.int (F (k.1 + 1) k.2 + F k.1 k.2)):=⟨_,rfl⟩
     have hd1:=hd.put (k.1 + 1) k.2 (F (k.1 + 1) k.2 + F k.1 k.2)
     rw [<- hk1] at hd1
     have hd2:=hd1.put k.1 (k.2 + 1) (F k.1 (k.2 + 1) + F k.1 k.2)
     have l1:k1.length<=kds.length + 1:=by rw [hk1]; exact zbO _ _ _
     have hz:=wl2 hlen hil hl hjl hrl
     have l2:=zbO k1 [.inl k.1,.inl (k.2 + 1)] (.int (F k.1 (k.2 + 1) + F k.1 k.2))
     refine ⟨_,[some (dPl p),some (.dict (dPutD k1 [.inl k.1,.inl (k.2 + 1)] (.int (F k.1 (k.2 + 1) + F k.1 k.2)))),some (.int (i:Nat)),some (dR r'),some (.int x),some (.int (F k.1 k.2)),some (dC (k.1,k.2 + 1))],rfl,?_,_,_,_,_,rfl,?_,wl1 l2 l1 hlen⟩
     ·refine zai [some (dPl p),some (.dict kds),some (.int (i:Nat)),some (dR r'),some (.int x),some (.int (F k.1 k.2)),e] (zQ ((zgV (c:=k) rfl (by rw [hk]; rfl)).trans (hd.get hpos))) ?_
      unfold gFor
      have hit:gItems (gTupD (gConsA (gTupD (gConsA (g2 dAddV (gVar 4) (gC (.int (1)))) (gConsA (g2 dSub (gVar 2) (gVar 4)) gNilA))) (gConsA (gTupD (gConsA (gVar 4) (gConsA (g2 dAddV (g2 dSub (gVar 2) (gVar 4)) (gC (.int (1)))) gNilA))) gNilA))) [some (dPl p),some (.dict kds),some (.int (i:Nat)),some (dR r'),some (.int x),some (.int (F k.1 k.2)),e]=some [dC (k.1 + 1,k.2),dC (k.1,k.2 + 1)]:=by
       show some [dC (x + 1,(i:Int) - x),dC (x,(i:Int) - x + 1)]=_
       rw [hk]
      rw [hit,Option.bind_some]
      refine for2 [some (dPl p),some (.dict kds),some (.int (i:Nat)),some (dR r'),some (.int x),some (.int (F k.1 k.2)),some (dC (k.1 + 1,k.2))] [some (dPl p),some (.dict k1),some (.int (i:Nat)),some (dR r'),some (.int x),some (.int (F k.1 k.2)),some (dC (k.1 + 1,k.2))] [some (dPl p),some (.dict k1),some (.int (i:Nat)),some (dR r'),some (.int x),some (.int (F k.1 k.2)),some (dC (k.1,k.2 + 1))] _ rfl ?_ rfl ?_
      ·refine (zdK (c:=(k.1 + 1,k.2)) rfl rfl (zk ((zbR (c:=(k.1 + 1,k.2)) rfl rfl rfl).trans (congrArg some (hd (k.1 + 1) k.2))) rfl rfl) (Nat.lt_of_succ_lt hz)).trans ?_
       rw [hk1]; rfl
      ·have h5:(dLook k1 [.inl k.1,.inl (k.2 + 1)]).getD (.int 0)=.int (F k.1 (k.2 + 1)):=by
        have:=hd1 k.1 (k.2 + 1)
        rw [this]
        show PyData.int (if k.1=k.1 + 1 /\ k.2 + 1=k.2 then _ else _)=_
        rw [if_neg (by omega)]
       exact zdK (c:=(k.1,k.2 + 1)) rfl rfl (zk ((zbR (c:=(k.1,k.2 + 1)) rfl rfl rfl).trans (congrArg some h5)) rfl rfl) (Nat.lt_of_le_of_lt l1 hz)
     ·rw [hnext]
      refine ⟨hd2.fn,fun x y=>?_⟩
      rw [hd2 x y]
      congr 1
      show (if x=k.1 /\ y=k.2 + 1 then _ else if x=k.1 + 1 /\ y=k.2 then _ else F x y)=F x y + _ + _
      by_cases c1:x=k.1 /\ y=k.2 + 1
      ·rw [if_pos c1,if_pos c1,if_neg (by omega),c1.1,c1.2]; omega
      ·rw [if_neg c1,if_neg c1]
       by_cases c2:x=k.1 + 1 /\ y=k.2
       ·rw [if_pos c2,if_pos c2,c2.1,c2.2]; omega
       ·rw [if_neg c2,if_neg c2]; omega)
   refine ⟨_,[some (dPl p),some (.dict kds2),some (.int (i:Nat)),some (dR r'),c2,d2,e2'],rfl,?_,kds2,_,_,_,_,_,rfl,?_,by omega⟩
   ·exact zlH rfl e2
   ·rw [ht,zbd,List.foldl_append,hln,Nat.zero_add,<- hG]
    rw [List.take_length] at hd2
    exact hd2
  ·rintro δ' ⟨kds,a,b,c,d,e,rfl,hd,_⟩
   rw [List.length_zipIdx,List.take_length] at hd
   exact ret (.dict kds) rfl (.mk rfl ⟨kds,rfl,hd⟩)
 obtain ⟨_,e,kds,rfl,hd⟩:=main
 exact ⟨kds,e,hd⟩
end MyLaw
namespace MyLaw
open PySem L2 Q1
theorem zdz {c:Int×Int}:∀ {q:List (List Int)} {n:Nat},c∈cnts n q->∃ k,k < q.length /\ c.1∈q.getD k [] /\ c.1 + c.2=((n + k:Nat):Int)
 | [],n,h=>by simp [cnts] at h
 | r :: q,n,h=>by
   rw [cnts,List.mem_append] at h
   rcases h with h | h
   ·obtain ⟨b,hb,rfl⟩:=List.mem_map.mp h
    exact ⟨0,by simp,by simpa using hb,by show b + ((n:Int) - b)=_; omega⟩
   ·obtain ⟨k,h1,h2,h3⟩:=zdz h
    exact ⟨k + 1,by simpa using h1,by simpa using h2,by rw [h3]; omega⟩
theorem zjV (p:List (List Int)) (n:Nat) (b:Int):goB p (b,(n:Int) - b)=decide (b∈p.getD n []):=by
 unfold goB
 simp only
 rw [show b + ((n:Int) - b)=(n:Int) by omega,Int.toNat_natCast,decide_eq_true (show (0:Int)<=(n:Int) by omega),Bool.true_and]
 rcases Nat.lt_or_ge n p.length with q | q
 ·rw [decide_eq_true (show (n:Int) < (p.length:Int) by omega),Bool.true_and]
 ·rw [decide_eq_false (show ¬ (n:Int) < (p.length:Int) by omega),Bool.false_and,List.getD_eq_getElem?_getD,List.getElem?_eq_none q]
  simp
theorem zeM {p:List (List Int)} (hp:Pl p):endsL p=(cnts 1 (p.map led)).filter fun c=> !goB p c:=by
 obtain ⟨q,rfl,_⟩:=hp.ex
 unfold endsL
 rw [List.filter_cons_of_neg]
 have:goB ([0] :: q) (0,0)=true:=by unfold goB; simp
 rw [this]; decide
theorem zf0 {p:List (List Int)} (hl:p.length<=24) (h25:∀ r∈p,r.length<=25):(endsL p).length<=1201:=by
 unfold endsL
 refine Nat.le_trans (List.length_filter_le _ _) ?_
 have:=zbv (p.map led) 1 (fun s hs=>by
  obtain ⟨t,ht,rfl⟩:=List.mem_map.mp hs
  have:=zbF (r:=t)
  have:=h25 t ht
  omega)
 rw [List.length_map] at this
 rw [List.length_cons]; omega
theorem ze0 {p:List (List Int)} (hp:Pl p) (hl:p.length<=24) (h25:∀ r∈p,r.length<=25):zag [dPl p]=some ((endsL p).map dC):=by
 rw [zgx hl h25,zeM hp]; rfl
end MyLaw
namespace MyLaw
open PySem L2 Q1
theorem zdF {g:DS->Option D} {δ:DS} {l:List D} (h:g δ=some (.list l)):gItems g δ=some l:=by unfold gItems; rw [h]; rfl
end MyLaw
namespace MyLaw
open PySem L2 Q1
end MyLaw
namespace MyLaw
noncomputable def sm {α:Type} (f:α->Int) (l:List α):Int:=(l.map f).sum
theorem zj6 {α:Type} (f:α->Int):sm f []=0:=rfl
theorem zas {α:Type} (f:α->Int) (a:α) (l:List α):sm f (a :: l)=f a + sm f l:=by unfold sm; rw [List.map_cons,List.sum_cons]
theorem zj5 {α:Type} (f:α->Int) (l m:List α):sm f (l ++ m)=sm f l + sm f m:=by unfold sm; rw [List.map_append,List.sum_append]
theorem ziv {α β:Type} (f:β->Int) (g:α->β) (l:List α):sm f (l.map g)=sm (fun a=>f (g a)) l:=by unfold sm; rw [List.map_map]; rfl
theorem za4 {α:Type} {f g:α->Int} {l:List α} (h:∀ a∈l,f a=g a):sm f l=sm g l:=by unfold sm; rw [List.map_congr_left h]
theorem zdY {α:Type} (f g:α->Int):∀ l:List α,sm (fun a=>f a + g a) l=sm f l + sm g l
 | []=>rfl
 | a :: l=>by rw [zas,zas,zas,zdY f g l]; omega
theorem zk5 {α:Type} {f:α->Int} {l:List α} (h:∀ a∈l,f a=0):sm f l=0:=by
 induction l with
 | nil=>rfl
 | cons a l ih=>rw [zas,h a List.mem_cons_self,ih fun b hb=>h b (List.mem_cons_of_mem _ hb)]; rfl
theorem zkv {α:Type} {f:α->Int} {l m:List α} (h:l.Perm m):sm f l=sm f m:=by
 induction h with
 | nil=>rfl
 | cons a _ ih=>rw [zas,zas,ih]
 | swap a b l=>rw [zas,zas,zas,zas]; omega
 | trans _ _ i j=>rw [i,j]
theorem zcU {α:Type} (f:α->Int) (P:α->Bool):∀ l:List α,sm f (l.filter P)=sm (fun a=>if P a=true then f a else 0) l
 | []=>rfl
 | a :: l=>by
   rw [List.filter_cons,zas,<- zcU f P l]
   cases P a with
   | true=>rw [if_pos rfl,if_pos rfl,zas]
   | false=>rw [if_neg (by decide),if_neg (by decide)]; omega
theorem zia {f:Int->Int} {l s:List Int} (hl:l.Nodup) (hs:s.Nodup) (h:∀ x∈s,x∈l):sm (fun a=>if a∈s then f a else 0) l=sm f s:=by
 have pm:List.Perm (l.filter fun x=>decide (x∈s)) s:=(List.perm_ext_iff_of_nodup (hl.sublist List.filter_sublist) hs).mpr fun z=>by
  rw [List.mem_filter,decide_eq_true_eq]
  exact ⟨fun q=>q.2,fun q=>⟨h z q,q⟩⟩
 rw [<- zkv pm,zcU]
 exact za4 fun a _=>by simp
theorem zmM {A:Int->Int} {r:List Int} (hr:Rise r) (f:Int->Int):sm (fun b=>lv A r b * f b) (led r)=sm (fun b=>A b * (f (b + 1) + f b)) r:=by
 have nl:(led r).Nodup:=zcB zbr
 have nr:=zcB hr
 have e1:sm (fun b=>if b∈r then A b * f b else 0) (led r)=sm (fun b=>A b * f b) r:=zia nl nr fun x hx=>zb3.mpr (.inl hx)
 have e2:sm (fun b=>if b∈r.map (· + 1) then A (b - 1) * f b else 0) (led r)=sm (fun b=>A b * f (b + 1)) r:=by
  rw [zia (f:=fun b=>A (b - 1) * f b) nl (List.pairwise_map.mpr (nr.imp fun h e=>h (by omega))) (fun x hx=>by
   obtain ⟨y,hy,rfl⟩:=List.mem_map.mp hx
   exact zb3.mpr (.inr (by rw [show y + 1 - 1=y by omega]; exact hy))),ziv]
  exact za4 fun a _=>by rw [show a + 1 - 1=a by omega]
 have e3:sm (fun b=>A b * (f (b + 1) + f b)) r=sm (fun b=>A b * f (b + 1)) r + sm (fun b=>A b * f b) r:=by
  rw [<- zdY]
  exact za4 fun a _=>by rw [Int.mul_add]
 rw [e3,<- e1,<- e2,<- zdY]
 refine za4 fun b _=>?_
 have m:b∈r.map (· + 1)↔b - 1∈r:=by
  rw [List.mem_map]
  exact ⟨fun ⟨y,hy,e⟩=>by rw [show b - 1=y by omega]; exact hy,fun h=>⟨b - 1,h,by omega⟩⟩
 unfold lv
 simp only [m]
 split <;> split <;> simp [Int.add_mul]
noncomputable def dlt (φ:Int->Int->Int) (c:Int×Int):Int:=φ (c.1 + 1) c.2 + φ c.1 (c.2 + 1) - φ c.1 c.2
theorem zft {p:List (List Int)} (φ:Int->Int->Int):∀ (q:List (List Int)) (r:List Int) (n:Nat) (A:Int->Int) (W:Int->Int->Int),(∀ j,p.getD (n + j) []=(r :: q).getD j [])->Chn r q->Rise r->
  (∀ (x y:Int) (j:Nat),x + y=(n:Int) + (j:Int)->W x y=WW A (r :: q) j x)->
  sm (fun c=>W c.1 c.2 * φ c.1 c.2) ((cnts (n + 1) ((r :: q).map led)).filter fun c=> !goB p c)=sm (fun b=>A b * φ b ((n:Int) - b)) r + sm (fun c=>W c.1 c.2 * dlt φ c) (cnts n (r :: q))
 | q,r,n,A,W,hg,hc,hr,hW=>by
   have nl:(led r).Nodup:=zcB zbr
   have e1:=hg 1
   have hrow:sm (fun c=>W c.1 c.2 * φ c.1 c.2) ((rowC (n + 1) (led r)).filter fun c=> !goB p c)=sm (fun b=>lv A r b * φ b ((n:Int) + 1 - b)) ((led r).filter fun b=> !decide (b∈p.getD (n + 1) [])):=by
    unfold rowC
    rw [List.filter_map,ziv]
    have ef:((fun c:Int×Int=> !goB p c) ∘ fun b:Int=>(b,((n + 1:Nat):Int) - b))=fun b=> !decide (b∈p.getD (n + 1) []):=by
     funext b
     show (!goB p (b,((n + 1:Nat):Int) - b))=_
     rw [zjV]
    rw [ef]
    refine za4 fun b _=>?_
    show W b (((n + 1:Nat):Int) - b) * φ b (((n + 1:Nat):Int) - b)=_
    rw [hW b (((n + 1:Nat):Int) - b) 1 (by push_cast; omega),show ((n + 1:Nat):Int) - b=(n:Int) + 1 - b by push_cast; rfl]
    show WW (lv A r) q 0 b * _=_
    rw [WW_0]
   have hlv:=zmM hr (A:=A) (fun b=>φ b ((n:Int) + 1 - b))
   have hsplit:∀ s:List Int,s.Nodup->(∀ x∈s,x∈led r)->sm (fun b=>lv A r b * φ b ((n:Int) + 1 - b)) ((led r).filter fun b=> !decide (b∈s)) + sm (fun b=>lv A r b * φ b ((n:Int) + 1 - b)) s=sm (fun b=>lv A r b * φ b ((n:Int) + 1 - b)) (led r):=by
    intro s hs hsub
    rw [zcU,<- zia (f:=fun b=>lv A r b * φ b ((n:Int) + 1 - b)) nl hs hsub,<- zdY]
    refine za4 fun b _=>?_
    by_cases q:b∈s
    ·simp [q]
    ·simp [q]
   have hcur:sm (fun c=>W c.1 c.2 * dlt φ c) (rowC n r) + sm (fun b=>A b * φ b ((n:Int) - b)) r=sm (fun b=>A b * (φ (b + 1) ((n:Int) + 1 - (b + 1)) + φ b ((n:Int) + 1 - b))) r:=by
    unfold rowC
    rw [ziv,<- zdY]
    refine za4 fun b _=>?_
    show W b ((n:Int) - b) * dlt φ (b,(n:Int) - b) + _=_
    rw [hW b ((n:Int) - b) 0 (by push_cast; omega),WW_0]
    unfold dlt
    show A b * (φ (b + 1) ((n:Int) - b) + φ b ((n:Int) - b + 1) - φ b ((n:Int) - b)) + _=_
    rw [show (n:Int) + 1 - (b + 1)=(n:Int) - b by omega,show (n:Int) + 1 - b=(n:Int) - b + 1 by omega,<- Int.mul_add]
    congr 1
    omega
   rw [List.map_cons,cnts,List.filter_append,zj5,hrow,e1,cnts,zj5]
   cases q with
   | nil=>
     have:=hsplit [] (by simp) (by simp)
     simp only [List.map_nil,cnts,List.filter_nil,zj6]
     rw [zj6] at this
     rw [show ([r]:List (List Int)).getD 1 []=[] from rfl]
     omega
   | cons s q=>
     have hs:=hc.1
     have h2:=hsplit s (zcB hs.2.1) hs.2.2
     have ih:=zft (p:=p) φ q s (n + 1) (lv A r) W (fun j=>by rw [show n + 1 + j=n + (j + 1) by omega,hg (j + 1)]; rfl) hc.2 hs.2.1 (fun x y j h=>by
      rw [hW x y (j + 1) (by push_cast at h ⊢; omega)]; rfl)
     rw [show (r :: s :: q).getD 1 []=s from rfl,ih]
     rw [show sm (fun b=>lv A r b * φ b (((n + 1:Nat):Int) - b)) s=sm (fun b=>lv A r b * φ b ((n:Int) + 1 - b)) s from by push_cast; rfl]
     omega
theorem zko {p:List (List Int)} (hp:Pl p) (φ:Int->Int->Int):sm (fun c=>waysF p c.1 c.2 * φ c.1 c.2) (endsL p)=φ 0 0 + sm (fun c=>waysF p c.1 c.2 * dlt φ c) (cnts 0 p):=by
 rw [zeM hp]
 have hw:∀ (x y:Int) (j:Nat),x + y=((0:Nat):Int) + (j:Int)->waysF p x y=WW A0 p j x:=fun x y j h=>zfN hp (by omega)
 obtain ⟨q,rfl,hc⟩:=hp.ex
 have:=zft (p:=[0] :: q) φ q [0] 0 A0 (waysF ([0] :: q)) (fun j=>by rw [Nat.zero_add]) hc (by unfold Rise; simp) hw
 rw [this]
 congr 1
 simp [sm,A0]
theorem zjt {p:List (List Int)} (hp:Pl p) {φ:Int->Int->Int} (h:∀ c∈cnts 0 p,dlt φ c=0):sm (fun c=>waysF p c.1 c.2 * φ c.1 c.2) (endsL p)=φ 0 0:=by
 rw [zko hp,zk5 fun c hc=>by rw [h c hc,Int.mul_zero]]; omega
end MyLaw
namespace MyLaw
open PySem L2 Q1
noncomputable def nx (c:Int×Int) (x:Bool):Int×Int:=if x=true then (c.1 + 1,c.2) else (c.1,c.2 + 1)
noncomputable def rowsF (p:List (List Int)):Nat->Int×Int->List (List Bool)
 | 0,_=>[[]]
 | n + 1,c=>if goB p c=true then (rowsF p n (nx c true)).map (true :: ·) ++ (rowsF p n (nx c false)).map (false :: ·) else [[]]
noncomputable def T (p:List (List Int)) (c:Int×Int):List (List Bool):=rowsF p (p.length - (c.1 + c.2).toNat + 1) c
theorem zgr {p:List (List Int)} {c:Int×Int} (h:goB p c=true):0<=c.1 + c.2 /\ c.1 + c.2 < (p.length:Int):=by
 unfold goB at h
 rw [Bool.and_eq_true,Bool.and_eq_true,decide_eq_true_eq,decide_eq_true_eq] at h
 exact h.1
theorem zcg (c:Int×Int) (x:Bool):(nx c x).1 + (nx c x).2=c.1 + c.2 + 1:=by
 cases x
 ·show c.1 + (c.2 + 1)=_; omega
 ·show c.1 + 1 + c.2=_; omega
theorem toN {L:Nat} {x:Int} (h:0<=x /\ x < (L:Int)):L - x.toNat=L - (x + 1).toNat + 1:=by
 obtain ⟨k,rfl⟩:=Int.eq_ofNat_of_zero_le h.1
 have hk:k < L:=Int.ofNat_lt.mp h.2
 show L - k=L - (k + 1) + 1
 omega
theorem zgD {p:List (List Int)} {c:Int×Int} (h:goB p c=false):T p c=[[]]:=by
 unfold T rowsF
 rw [h]; rfl
theorem T_go {p:List (List Int)} {c:Int×Int} (h:goB p c=true):T p c=(T p (nx c true)).map (true :: ·) ++ (T p (nx c false)).map (false :: ·):=by
 have hl:=zgr h
 have e:∀ x,p.length - (c.1 + c.2).toNat=p.length - ((nx c x).1 + (nx c x).2).toNat + 1:=fun x=>by rw [zcg]; exact toN hl
 conv=>lhs; unfold T rowsF
 rw [if_pos h,e true]
 rw [show rowsF p (p.length - ((nx c true).1 + (nx c true).2).toNat + 1) (nx c false)=T p (nx c false) by unfold T; rw [zcg,zcg]]
 rfl
theorem zmA {p:List (List Int)} {P:Int×Int->Prop} (h0:∀ c,goB p c=false->P c) (h1:∀ c,goB p c=true->P (nx c true)->P (nx c false)->P c) (c:Int×Int):P c:=by
 suffices h:∀ (n:Nat) c,p.length<=(c.1 + c.2).toNat + n->P c by exact h p.length c (by omega)
 intro n
 induction n with
 | zero=>
   intro c hc
   refine h0 c ?_
   cases hg:goB p c with
   | false=>rfl
   | true=>have:=zgr hg; omega
 | succ n ih=>
   intro c hc
   cases hg:goB p c with
   | false=>exact h0 c hg
   | true=>
     have:=zgr hg
     exact h1 c hg (ih _ (by rw [zcg]; omega)) (ih _ (by rw [zcg]; omega))
theorem T_ne {p:List (List Int)} (c:Int×Int):T p c≠[]:=by
 refine zmA (P:=fun c=>T p c≠[]) (fun c h=>by rw [zgD h]; simp) (fun c h i _=>?_) c
 rw [T_go h]
 intro z
 rw [List.append_eq_nil_iff,List.map_eq_nil_iff] at z
 exact i z.1
noncomputable def go (c:Int×Int):List Bool->Int×Int
 | []=>c
 | x :: w=>go (nx c x) w
theorem zfV (c:Int×Int) (w:List Bool) (x:Bool):go c (w ++ [x])=nx (go c w) x:=by
 induction w generalizing c with
 | nil=>rfl
 | cons y w ih=>exact ih _
theorem zlB (c:Int×Int) (w:List Bool):(go c w).1 + (go c w).2=c.1 + c.2 + (w.length:Int):=by
 induction w generalizing c with
 | nil=>exact (Int.add_zero _).symm
 | cons y w ih=>
   show (go (nx c y) w).1 + (go (nx c y) w).2=_
   rw [ih,zcg,List.length_cons]
   omega
theorem zfo {p:List (List Int)} {c:Int×Int} (h:c∈cnts 0 p):goB p c=true:=by
 obtain ⟨k,hk,h1,h2⟩:=zdz h
 have e:c=(c.1,((k:Nat):Int) - c.1):=by
  rw [show ((k:Nat):Int) - c.1=c.2 by rw [Nat.zero_add] at h2; omega]
 rw [e,zjV]
 exact decide_eq_true h1
theorem zk0 {p:List (List Int)} {c:Int×Int} (h:c∈endsL p):goB p c=false:=by
 unfold endsL at h
 have:=(List.mem_filter.mp h).2
 simpa using this
end MyLaw
namespace MyLaw
open PySem L2 Q1
noncomputable def ch (x:Bool):Nat:=if x=true then 98 else 103
noncomputable def tx (w:List Bool):Str:=⟨(w.map ch).toArray⟩
theorem zbA (w:List Bool):(tx w).cps.toList=w.map ch:=by unfold tx; simp
theorem zfS (w:List Bool):(tx w).length=w.length:=by
 show (tx w).cps.size=_
 rw [<- Array.length_toList,zbA,List.length_map]
theorem zkI {x y:Str} (h:x.cps.toList=y.cps.toList):x=y:=by
 obtain ⟨a⟩:=x
 obtain ⟨b⟩:=y
 congr 1
 exact Array.toList_inj.mp h
theorem zmw (a b:List Bool):tx a ++ tx b=tx (a ++ b):=by
 refine zkI ?_
 show ((tx a).cps ++ (tx b).cps).toList=_
 rw [Array.toList_append,zbA,zbA,zbA,List.map_append]
theorem tx_b:("b":Str)=tx [true]:=by decide +kernel
theorem tx_g:("g":Str)=tx [false]:=by decide +kernel
theorem tx_0:("":Str)=tx []:=by decide +kernel
theorem zfJ {w:List Bool} {x:Bool} (h:w.length<=1000):dAddV (.str (tx w)) (.str (tx [x]))=some (.str (tx (w ++ [x]))):=by
 have e:dAddV (.str (tx w)) (.str (tx [x]))=some (.str (tx w ++ tx [x])):=if_pos (by rw [zfS,zfS]; simp; omega)
 rw [e,zmw]
theorem tru24 {g:DS->Option D} {δ:DS} {b:Bool} (h:g δ=some (.bool b)):gTru g δ=some b:=by unfold gTru; rw [h]; rfl
theorem zme (w:List Bool):∀ c:Int×Int,c.1 + PyProof.Rows.cnt 98 (w.map ch)=(go c w).1:=by
 induction w with
 | nil=>intro c; exact Int.add_zero _
 | cons x w ih=>
   intro c
   rw [List.map_cons,PyProof.Rows.cnt_cons]
   show _=(go (nx c x) w).1
   rw [<- ih (nx c x)]
   cases x
   ·show c.1 + ((0:Int) + _)=c.1 + _
    omega
   ·show c.1 + ((1:Int) + _)=c.1 + 1 + _
    omega
theorem zjw (w:List Bool):Txt.count (tx w) "b"=(go (0,0) w).1:=by
 have e:("b":Str)=⟨#[98]⟩:=by decide +kernel
 rw [e,PyProof.Rows.count_cnt,zbA,<- zme w (0,0)]
 exact (Int.zero_add _).symm
noncomputable def dW (w:List Bool):D:=.tuple [.str (tx w),dC (go (0,0) w)]
theorem zec {i j:Nat} {δ:DS} {l:List D} {d:D} (h:gVar j δ=some (.list (l ++ [d]))):gSetPop i j δ=some (.nx ((δ.set j (some (.list l))).set i (some d))):=by
 unfold gSetPop
 rw [h]
 show ((l ++ [d])[(l ++ [d]).length - 1]?).bind _=_
 rw [List.length_append,List.length_singleton,Nat.add_sub_cancel,List.getElem?_concat_length,List.dropLast_concat]
 rfl
theorem zmN {a b:DS->Option Bool} {δ:DS} {x y:Bool} (h1:a δ=some x) (h2:x=true->b δ=some y):gAnd a b δ=some (x && y):=by
 unfold gAnd
 rw [h1,Option.bind_some]
 cases x with
 | true=>exact h2 rfl
 | false=>rfl
theorem zfz {g:DS->Option (List D)} {δ:DS} {xs:List D} (h:g δ=some xs) (hl:xs.length<=100000):gTupD g δ=some (.tuple xs):=by
 unfold gTupD
 rw [h,Option.bind_some,if_pos hl]
noncomputable def ms (p:List (List Int)) (P:List (List Bool)):Nat:=(P.map fun w=>2 * (T p (go (0,0) w)).length - 1).sum
theorem zjE {p:List (List Int)} (c:Int×Int):1<=(T p c).length:=List.length_pos_iff.mpr (T_ne c)
theorem zjZ {p:List (List Int)} (P:List (List Bool)):P.length<=ms p P:=by
 induction P with
 | nil=>exact Nat.zero_le _
 | cons w P ih=>
   have:=zjE (p:=p) (go (0,0) w)
   unfold ms at ih ⊢
   rw [List.map_cons,List.sum_cons,List.length_cons]
   omega
theorem ze8 {p:List (List Int)} (P:List (List Bool)) (w:List Bool):ms p (P ++ [w])=ms p P + (2 * (T p (go (0,0) w)).length - 1):=by
 unfold ms
 rw [List.map_append,List.sum_append]
 simp
theorem zlJ {s m w t f:Nat} (hm:s + (2 * w - 1)=m) (hw:w=t + f) (h1:1<=t) (h2:1<=f):s + (2 * f - 1) + (2 * t - 1)=m - 1:=by omega
noncomputable def bh (p:List (List Int)) (w:List Bool):List (List Bool):=(T p (go (0,0) w)).map (w ++ ·)
theorem zmk {p:List (List Int)} {w:List Bool} (h:goB p (go (0,0) w)=false):bh p w=[w]:=by
 unfold bh; rw [zgD h]; simp
theorem zmY {p:List (List Int)} {w:List Bool} (h:goB p (go (0,0) w)=true):bh p w=bh p (w ++ [true]) ++ bh p (w ++ [false]):=by
 unfold bh
 rw [T_go h,zfV,zfV,List.map_append,List.map_map,List.map_map]
 congr 1 <;> exact List.map_congr_left fun v _=>by simp
theorem zgd {p:List (List Int)} (hl:p.length<=24) (hT:(T p (0,0)).length<=4000):zay [dPl p]=some ((T p (0,0)).map dW):=by
 rw [zgu]
 refine z5 ?_
 refine zH [some (dPl p),some (.list []),none,none,none] rfl ?_
 refine zH [some (dPl p),some (.list []),some (.list (([[]]:List (List Bool)).map fun w=>.str (tx w))),none,none] ?_ ?_
 ·rw [show ([[]]:List (List Bool)).map (fun w=>PyData.str (tx w))=[.str ""] by rw [tx_0]; rfl]; rfl
 refine zeD (fun m δ=>∃ (F P:List (List Bool)) (a b:Option D),δ=[some (dPl p),some (.list (F.map dW)),some (.list (P.map fun w=>.str (tx w))),a,b] /\ F ++ P.reverse.flatMap (bh p)=T p (0,0) /\ ms p P=m /\ m<=8000 /\ ∀ w∈P,w.length<=24)
  (fun δ=>∃ a b c,δ=[some (dPl p),some (.list ((T p (0,0)).map dW)),a,b,c]) (2 * (T p (0,0)).length - 1) ⟨[],[[]],none,none,rfl,?_,?_,by omega,fun w hw=>by simp at hw; subst hw; exact Nat.zero_le _⟩ ?_ ?_
 ·show [] ++ (([[]]:List (List Bool)).reverse.flatMap (bh p))=_
  unfold bh
  simp [go]
 ·unfold ms; simp [go]
 ·rintro m δ ⟨F,P,a,b,rfl,hF,hm,hm3,hw7⟩
  have hc:gB (g2 dGt (gB1 dLen (gConsA (gVar 2) gNilA)) (gC (.int (0)))) [some (dPl p),some (.list (F.map dW)),some (.list (P.map fun w=>.str (tx w))),a,b]=some (decide ((0:Int) < ((P.length:Nat):Int))):=by
   refine zba ?_
   show some (PyData.bool (decide ((0:Int) < (((P.map fun w=>PyData.str (tx w)).length:Nat):Int))))=_
   rw [List.length_map]
  have hFl:F.length<=4000:=by
   have:=congrArg List.length hF
   rw [List.length_append] at this
   omega
  have hPl:=zjZ (p:=p) P
  rcases List.eq_nil_or_concat P with z | ⟨P',w,z⟩
  ·subst z
   have:F=T p (0,0):=by simpa using hF
   subst this
   exact .inl ⟨hc,_,_,_,rfl⟩
  ·rw [List.concat_eq_append] at z
   subst z
   refine .inr ⟨by rw [hc,decide_eq_true (by rw [List.length_append,List.length_singleton]; omega)],?_⟩
   rw [ze8] at hm
   have hpos:=zjE (p:=p) (go (0,0) w)
   have hsum:=zlB (0,0) w
   have hsum:(go (0,0) w).1 + (go (0,0) w).2=(w.length:Int):=by rw [hsum]; show 0 + 0 + _=_; omega
   rw [List.reverse_append,List.reverse_singleton,List.flatMap_append,List.flatMap_singleton] at hF
   have hwl:=hw7 w (List.mem_append_right _ (List.mem_singleton.mpr rfl))
   have eP:(P' ++ [w]).map (fun w=>PyData.str (tx w))=P'.map (fun w=>PyData.str (tx w)) ++ [.str (tx w)]:=by rw [List.map_append]; rfl
   rw [eP]
   have e2:gCount (gVar 3) (gC (.str "b")) [some (dPl p),some (.list (F.map dW)),some (.list (P'.map fun w=>.str (tx w))),some (.str (tx w)),b]=some (.int (go (0,0) w).1):=by
    show some (PyData.int (Txt.count (tx w) "b"))=_
    rw [zjw]
   have el:gB1 dLen (gConsA (gVar 3) gNilA) [some (dPl p),some (.list (F.map dW)),some (.list (P'.map fun w=>.str (tx w))),some (.str (tx w)),some (.int (go (0,0) w).1)]=some (.int (w.length:Nat)):=by
    show (if (tx w).length<=100000 then some (PyData.int ((tx w).length:Nat)) else none)=_
    rw [zfS,if_pos (by omega)]
   have ep:gB1 dLen (gConsA (gVar 0) gNilA) [some (dPl p),some (.list (F.map dW)),some (.list (P'.map fun w=>.str (tx w))),some (.str (tx w)),some (.int (go (0,0) w).1)]=some (.int (p.length:Nat)):=by
    show some (PyData.int (((p.map dR).length:Nat):Int))=_
    rw [List.length_map]
   have ec:gAnd (gB (g2 dLt (gB1 dLen (gConsA (gVar 3) gNilA)) (gB1 dLen (gConsA (gVar 0) gNilA)))) (gB (g2 dIn (gVar 4) (g2 dIx (gVar 0) (gB1 dLen (gConsA (gVar 3) gNilA))))) [some (dPl p),some (.list (F.map dW)),some (.list (P'.map fun w=>.str (tx w))),some (.str (tx w)),some (.int (go (0,0) w).1)]=some (goB p (go (0,0) w)):=by
    refine (zmN (x:=decide ((w.length:Int) < (p.length:Int))) (y:=decide ((go (0,0) w).1∈p.getD w.length [])) (zba (zk el ep rfl)) fun hx=>?_).trans ?_
    ·rw [decide_eq_true_eq] at hx
     have hi:=zjD (p:=p) (i:=(w.length:Int)) (by omega) hx
     rw [Int.toNat_natCast] at hi
     exact zba (zk rfl (zk rfl el hi) zh4)
    ·unfold goB
     rw [hsum,Int.toNat_natCast,decide_eq_true (show (0:Int)<=(w.length:Int) by omega),Bool.true_and]
   cases hg:goB p (go (0,0) w) with
   | true=>
     rw [hg] at ec
     have hlt:=zgr hg
     have hT2:=T_go hg
     have hTl:(T p (go (0,0) w)).length=(T p (go (0,0) (w ++ [true]))).length + (T p (go (0,0) (w ++ [false]))).length:=by
      rw [hT2,List.length_append,List.length_map,List.length_map,zfV,zfV]
     have h1:=zjE (p:=p) (go (0,0) (w ++ [true]))
     have h2:=zjE (p:=p) (go (0,0) (w ++ [false]))
     refine ⟨[some (dPl p),some (.list (F.map dW)),some (.list ((P' ++ [w ++ [false]] ++ [w ++ [true]]).map fun w=>.str (tx w))),some (.str (tx w)),some (.int (go (0,0) w).1)],m - 1,?_,by omega,F,P' ++ [w ++ [false]] ++ [w ++ [true]],_,_,rfl,?_,?_,by omega,fun u hu=>?_⟩
     ·refine zai _ (zec (l:=P'.map fun w=>.str (tx w)) (d:=.str (tx w)) rfl) (zai _ (zQ e2) (zcu true ec (fun _=>?_) fun z=>nomatch z))
      have hPl2:P'.length<=8000:=by have:=zjZ (p:=p) P'; omega
      refine zai _ (zdi (ds:=P'.map fun w=>.str (tx w)) (d:=.str (tx (w ++ [false]))) rfl (zk rfl rfl (by rw [tx_g]; exact zfJ (by omega))) (by rw [List.length_map]; omega)) ?_
      refine (zdi (ds:=P'.map (fun w=>PyData.str (tx w)) ++ [.str (tx (w ++ [false]))]) (d:=.str (tx (w ++ [true]))) rfl (zk rfl rfl (by rw [tx_b]; exact zfJ (by omega))) (by rw [List.length_append,List.length_map,List.length_singleton]; omega)).trans ?_
      rw [List.map_append,List.map_append]
      rfl
     ·rw [List.reverse_append,List.reverse_append,List.reverse_singleton,List.reverse_singleton,List.flatMap_append,List.flatMap_append,List.flatMap_singleton,List.flatMap_singleton,<- List.append_assoc (bh p (w ++ [true])),<- zmY hg]
      exact hF
     ·rw [ze8,ze8]
      exact zlJ hm hTl h1 h2
     ·rcases List.mem_append.mp hu with z | z
      ·rcases List.mem_append.mp z with z | z
       ·exact hw7 u (List.mem_append_left _ z)
       ·rw [List.mem_singleton] at z; rw [z,List.length_append,List.length_singleton]; omega
      ·rw [List.mem_singleton] at z; rw [z,List.length_append,List.length_singleton]; omega
   | false=>
     rw [hg] at ec
     rw [zmk hg] at hF
     refine ⟨[some (dPl p),some (.list ((F ++ [w]).map dW)),some (.list (P'.map fun w=>.str (tx w))),some (.str (tx w)),some (.int (go (0,0) w).1)],ms p P',?_,by omega,F ++ [w],P',_,_,rfl,?_,rfl,by omega,fun u hu=>hw7 u (List.mem_append_left _ hu)⟩
     ·refine zai _ (zec (l:=P'.map fun w=>.str (tx w)) (d:=.str (tx w)) rfl) (zai _ (zQ e2) (zcu false ec (fun z=>nomatch z) fun _=>?_))
      refine (zdi (ds:=F.map dW) (d:=dW w) rfl ?_ (by rw [List.length_map]; omega)).trans ?_
      ·have e5:(w.length:Int) - (go (0,0) w).1=(go (0,0) w).2:=by omega
       refine zfz (zf rfl (zf (zfz (zf rfl (zf (zk el rfl (show _=some (PyData.int (go (0,0) w).2) by rw [<- e5]; rfl)) rfl)) (by show 2<=100000; decide)) rfl)) (by show 2<=100000; decide)
      ·rw [List.map_append]; rfl
     ·rw [List.append_assoc]
      exact hF
 ·rintro δ' ⟨a,b,c,rfl⟩
  exact ret (.list ((T p (0,0)).map dW)) rfl (.mk rfl rfl)
noncomputable def rowsD (w:List Bool) (t:List (List Bool)):List D:=t.map fun u=>.str (tx (w ++ u))
theorem zdD {p:List (List Int)} (hl:p.length<=24):∀ (n:Nat) (c:Int×Int) (w:List Bool),c.1 + c.2=(w.length:Int)->(p.length:Int)<=c.1 + c.2 + n->w.length<=25->(T p c).length<=4000->zt (n + 1) [dPl p,.str (tx w),dC c]=some (rowsD w (T p c)):=by
 intro n
 induction n with
 | zero=>
   intro c w hw hn h12 hT
   have hg:goB p c=false:=by
    cases h:goB p c with
    | false=>rfl
    | true=>have:=zgr h; omega
   rw [zbP,zgD hg]
   refine z5 (zce true (zbW (x:=false) (tru24 (zao (zf rfl (zf rfl rfl)) rfl ((zbI p c).trans (by rw [hg]))))) (fun _=>zcN _ rfl (.mk rfl ?_)) fun z=>nomatch z)
   show [PyData.str (tx w)]=[PyData.str (tx (w ++ []))]
   rw [List.append_nil]
 | succ n ih=>
   intro c w hw hn h12 hT
   rw [zbP]
   refine z5 ?_
   cases hg:goB p c with
   | false=>
     rw [zgD hg]
     refine zce true (zbW (x:=false) (tru24 (zao (zf rfl (zf rfl rfl)) rfl ((zbI p c).trans (by rw [hg]))))) (fun _=>zcN _ rfl (.mk rfl ?_)) fun z=>nomatch z
     show [PyData.str (tx w)]=[PyData.str (tx (w ++ []))]
     rw [List.append_nil]
   | true=>
     have hlt:=zgr hg
     have hs:∀ x,(nx c x).1 + (nx c x).2=((w ++ [x]).length:Int):=fun x=>by rw [zcg,List.length_append,List.length_singleton]; omega
     have hTl:(T p c).length=(T p (nx c true)).length + (T p (nx c false)).length:=by rw [T_go hg,List.length_append,List.length_map,List.length_map]
     have len:∀ x,(T p (nx c x)).length<=4000:=fun x=>by cases x <;> omega
     have i:∀ x,zt (n + 1) [dPl p,.str (tx (w ++ [x])),dC (nx c x)]=some (rowsD (w ++ [x]) (T p (nx c x))):=fun x=>ih (nx c x) (w ++ [x]) (hs x) (by rw [zcg]; omega) (by rw [List.length_append,List.length_singleton]; omega) (len x)
     have hr:∀ x,rowsD (w ++ [x]) (T p (nx c x))=rowsD w ((T p (nx c x)).map (x :: ·)):=fun x=>by
      unfold rowsD
      rw [List.map_map]
      refine List.map_congr_left fun u _=>?_
      show PyData.str (tx (w ++ [x] ++ u))=PyData.str (tx (w ++ x :: u))
      rw [List.append_assoc]; rfl
     refine zc4 (zbW (x:=true) (tru24 (zao (zf rfl (zf rfl rfl)) rfl ((zbI p c).trans (by rw [hg]))))) ?_
     have e1:∀ z:Option D,gCallN (zt (n + 1)) 3 (gConsA (gVar 0) (gConsA (g2 dAddV (gVar 1) (gC (.str "b"))) (gConsA (gCall z6 2 (gConsA (gVar 2) (gConsA (gC (.str "b")) gNilA))) gNilA))) [some (dPl p),some (.str (tx w)),some (dC c),z]=some (rowsD w ((T p (nx c true)).map (true :: ·))):=fun z=>by
      rw [<- hr]
      exact zS (zf rfl (zf (zk rfl rfl (by rw [tx_b]; exact zfJ (by omega))) (zf (zao (zf rfl (zf rfl rfl)) rfl (zed c)) rfl))) rfl (i true)
     have e2:∀ z:Option D,gCallN (zt (n + 1)) 3 (gConsA (gVar 0) (gConsA (g2 dAddV (gVar 1) (gC (.str "g"))) (gConsA (gCall z6 2 (gConsA (gVar 2) (gConsA (gC (.str "g")) gNilA))) gNilA))) [some (dPl p),some (.str (tx w)),some (dC c),z]=some (rowsD w ((T p (nx c false)).map (false :: ·))):=fun z=>by
      rw [<- hr]
      exact zS (zf rfl (zf (zk rfl rfl (by rw [tx_g]; exact zfJ (by omega))) (zf (zao (zf rfl (zf rfl rfl)) rfl (zdU c)) rfl))) rfl (i false)
     refine zH [some (dPl p),some (.str (tx w)),some (dC c),some (.list (rowsD w ((T p (nx c true)).map (true :: ·))))] (zgJ (e1 _)) ?_
     refine zH [some (dPl p),some (.str (tx w)),some (dC c),some (.list (rowsD w (T p c)))] ((zfF (ds:=rowsD w ((T p (nx c true)).map (true :: ·))) rfl (e2 _) ?_).trans ?_) (ret _ rfl (.mk rfl rfl))
     ·unfold rowsD
      rw [List.length_map,List.length_map,List.length_map,List.length_map]
      have:=len true
      have:=len false
      omega
     ·rw [T_go hg]
      unfold rowsD
      rw [List.map_append]; rfl
theorem zli {l:List (Int×Int)} {f:Int×Int->Int}:sumI (l.map f)=sm f l:=by
 induction l with
 | nil=>rfl
 | cons a l ih=>rw [List.map_cons,sumI,ih,zas]
theorem zl0 {g:DS->Option D} {δ:DS} {l:List Int} (h:g δ=some (.list (l.map .int))):gB1 dSum (gConsA g gNilA) δ=some (.int (sumI l)):=by
 refine zja (zf h rfl) ?_
 show (intsD (l.map .int)).map _=_
 rw [zcr]; rfl
theorem zlh {p:List (List Int)} (hp:Pl p) {c:Int×Int} (h:c∈endsL p):waysF p c.1 c.2≠0:=by
 rw [zeM hp] at h
 obtain ⟨k,hk,h1,h2⟩:=zdz (List.mem_filter.mp h).1
 rw [List.length_map] at hk
 have e:(p.map led).getD k []=led (p.getD k []):=by
  rw [List.getD_eq_getElem?_getD,List.getD_eq_getElem?_getD,List.getElem?_map,List.getElem?_eq_getElem hk]; rfl
 rw [e] at h1
 rw [zfN hp (k:=k + 1) (by rw [h2]; congr 1; omega)]
 exact Int.ne_of_gt (zmt hp k c.1 h1)
theorem zjo {p:List (List Int)} (hp:Pl p):sm (fun c=>waysF p c.1 c.2) (endsL p)=((T p (0,0)).length:Nat):=by
 have h:=zjt hp (φ:=fun x y=>((T p (x,y)).length:Int)) fun c hc=>by
  have hg:=zfo hc
  show ((T p (c.1 + 1,c.2)).length:Int) + ((T p (c.1,c.2 + 1)).length:Int) - ((T p (c.1,c.2)).length:Int)=0
  have:(T p (c.1,c.2)).length=(T p (c.1 + 1,c.2)).length + (T p (c.1,c.2 + 1)).length:=by rw [T_go (c:=(c.1,c.2)) hg,List.length_append,List.length_map,List.length_map]; rfl
  omega
 rw [<- h]
 refine za4 fun c hc=>?_
 show _=waysF p c.1 c.2 * ((T p c).length:Int)
 rw [zgD (zk0 hc)]
 exact (Int.mul_one _).symm
theorem zfX {p:List (List Int)} (hp:Pl p) {kds:List (D×D)} (hd:Dt kds (waysF p)) {gi:DS->Option (List D)} {gd:DS->Option D} {ix:List Nat} {δ:DS} (hi:gi δ=some ((endsL p).map dC)) (hl:(endsL p).length<=100000) (hg:∀ c,gd (some (dC c) :: captD ix δ)=some (.dict kds)):
  gB (g2 dGt (gB1 dSum (gConsA (gLst (gComp gi ix (gDget gd (gVar 0)))) gNilA)) (gC (.int (4000)))) δ=some (decide (4000 < (T p (0,0)).length)):=by
 have ec:gComp gi ix (gDget gd (gVar 0)) δ=some (((endsL p).map fun c=>waysF p c.1 c.2).map .int):=
  zcS dC PyData.int (fun c=>waysF p c.1 c.2) (endsL p) hi hl fun c hc=>(zgV (c:=c) (hg c) rfl hd.fn).trans (Dt.get hd (zlh hp hc))
 refine zba (zk (zl0 (zO ec)) rfl ?_)
 show some (PyData.bool (decide (4000 < sumI ((endsL p).map fun c=>waysF p c.1 c.2))))=_
 rw [zli,zjo hp]
 refine congrArg (fun b=>some (PyData.bool b)) ?_
 rw [Bool.eq_iff_iff,decide_eq_true_eq,decide_eq_true_eq]
 omega
theorem zgA {p:List (List Int)} (hp:Pl p) (hl:p.length<=24) (h25:∀ r∈p,r.length<=25):z7 [dPl p]=some (if 4000 < (T p (0,0)).length then rxD "TooMany" else .list (rowsD [] (T p (0,0)))):=by
 rw [zgl]
 refine z5 ?_
 obtain ⟨kds,e,hd⟩:=zfc (p:=p) hl h25 (0,0)
 refine zH [some (dPl p),some (.dict kds)] (zQ (zao (zf rfl (zf rfl rfl)) rfl e)) ?_
 have hel:=zf0 (p:=p) hl h25
 have es:=zfX (ix:=[1]) (gi:=gItems (gLst (gCallN zdd 1 (gConsA (gVar 0) gNilA)))) (gd:=gVar 1) (δ:=[some (dPl p),some (.dict kds)]) hp hd (zdF (zO (zS (zf rfl rfl) rfl (zlr (p:=p) hl h25)))) (by omega) fun c=>rfl
 by_cases hT:4000 < (T p (0,0)).length
 ·rw [decide_eq_true hT] at es
  rw [if_pos hT]
  exact zce true es (fun _=>.mk rfl rfl) fun z=>nomatch z
 ·rw [decide_eq_false hT] at es
  rw [if_neg hT]
  refine zc4 es ?_
  have e3:zaM [dPl p,.str "",dC (0,0)]=some (rowsD [] (T p (0,0))):=by
   rw [tx_0]
   exact zdD hl 25 (0,0) [] rfl (by show (p.length:Int)<=0 + 0 + ((25:Nat):Int); omega) (by decide) (by omega)
  exact ret _ (zO (zS (zf rfl (zf rfl (zf rfl rfl))) rfl e3)) (.mk rfl rfl)
end MyLaw
namespace MyLaw
open PySem L2 Q1
noncomputable def Ord2 (u v:List Bool):Prop:=∃ a x y,u=a ++ true :: x /\ v=a ++ false :: y
theorem T_pw {p:List (List Int)} (c:Int×Int):(T p c).Pairwise Ord2:=by
 refine zmA (p:=p) (P:=fun c=>(T p c).Pairwise Ord2) (fun c h=>?_) (fun c h h1 h2=>?_) c
 ·rw [zgD h]; exact List.pairwise_singleton _ _
 ·have up:∀ {b:Bool} {l:List (List Bool)},l.Pairwise Ord2->(l.map (b :: ·)).Pairwise Ord2:=fun {b l} hl=>List.pairwise_map.mpr (hl.imp fun ⟨a,x,y,e1,e2⟩=>⟨b :: a,x,y,by rw [e1]; rfl,by rw [e2]; rfl⟩)
  rw [T_go h]
  refine List.pairwise_append.mpr ⟨up h1,up h2,fun u hu v hv=>?_⟩
  obtain ⟨x,_,rfl⟩:=List.mem_map.mp hu
  obtain ⟨y,_,rfl⟩:=List.mem_map.mp hv
  exact ⟨[],x,y,rfl,rfl⟩
theorem zlk {u v:List Bool} (h:Ord2 u v):(tx u).cps.toList < (tx v).cps.toList:=by
 obtain ⟨a,x,y,rfl,rfl⟩:=h
 rw [zbA,zbA]
 induction a with
 | nil=>exact List.Lex.rel (by decide)
 | cons b a ih=>exact List.Lex.cons ih
theorem zlM {u v:List Bool} (h:Ord2 u v):Txt.startswith (tx v) (tx u)=false:=by
 unfold Txt.startswith
 rw [StrLaws.subAt_eq,List.drop_zero]
 obtain ⟨a,x,y,rfl,rfl⟩:=h
 have:(((tx (a ++ false :: y)).cps.toList.take (tx (a ++ true :: x)).length) == (tx (a ++ true :: x)).cps.toList)=false:=by
  rw [beq_eq_false_iff_ne]
  intro z
  rw [zbA,zbA,zfS] at z
  have:=congrArg (fun l=>l[a.length]?) z
  simp [ch] at this
 rw [this]
 simp
theorem sOk {x:Str} (h:∀ c∈x.cps.toList,c < 128):PyData.strOk x=true /\ x.cps.all (· < 128)=true:=by
 refine ⟨?_,?_⟩
 ·show x.cps.all (· < 0x110000)=true
  rw [Array.all_eq_true_iff_forall_mem]
  intro c hc
  have:=h c (Array.mem_toList_iff.mpr hc)
  exact decide_eq_true (by omega)
 ·rw [Array.all_eq_true_iff_forall_mem]
  intro c hc
  exact decide_eq_true (h c (Array.mem_toList_iff.mpr hc))
theorem zly (w:List Bool):PyData.strOk (tx w)=true:=(sOk (x:=tx w) fun c hc=>by
 rw [zbA] at hc
 obtain ⟨b,_,rfl⟩:=List.mem_map.mp hc
 cases b <;> decide).1
theorem zg8 {l:List Str} (h:∀ s∈l,PyData.strOk s=true):dEq (.list (l.map .str)) (.list (l.map .str))=some (.bool true):=by
 have h1:PyData.canLayAll0 (l.map .str)=true /\ PyData.depthAll (l.map .str)<=1 /\ PyData.eqvAll (l.map .str) (l.map .str)=true:=by
  induction l with
  | nil=>exact ⟨rfl,by decide,rfl⟩
  | cons a l ih=>
    obtain ⟨i1,i2,i3⟩:=ih fun s hs=>h s (List.mem_cons_of_mem _ hs)
    rw [List.map_cons,PyData.canLayAll0,PyData.depthAll,PyData.eqvAll,i1,i3]
    refine ⟨by simp [PyData.canLay0,h a List.mem_cons_self],?_,by simp [PyData.eqv]⟩
    simp [PyData.depth]; omega
 obtain ⟨i1,i2,i3⟩:=h1
 have sh:SeqAt.shaped (.list (l.map .str))=true:=by
  unfold SeqAt.shaped
  rw [PyData.canLay0,PyData.depth,i1]
  simp
  omega
 show (if (SeqAt.shaped (.list (l.map .str)) && SeqAt.shaped (.list (l.map .str)))=true then some (PyData.bool (PyData.eqv (.list (l.map .str)) (.list (l.map .str)))) else none)=_
 rw [sh,PyData.eqv,i3]; rfl
theorem zhD (t:List (List Bool)):dEq (.list (rowsD [] t)) (.list (rowsD [] t))=some (.bool true):=by
 have:=zg8 (l:=t.map tx) fun s hs=>by obtain ⟨w,_,rfl⟩:=List.mem_map.mp hs; exact zly w
 rw [List.map_map] at this
 exact this
theorem zeb {p:List (List Int)} (hp:Pl p) (hl:p.length<=24) (h25:∀ r∈p,r.length<=25):zD [dPl p]=some (if 4000 < (T p (0,0)).length then [.str "TooMany"] else rowsD [] (T p (0,0))):=by
 rw [zeg]
 have vr:=zgA hp hl h25
 have ec:gCall z7 1 (gConsA (gVar 0) gNilA) [some (dPl p),none,none]=some (if 4000 < (T p (0,0)).length then rxD "TooMany" else .list (rowsD [] (T p (0,0)))):=zao (zf rfl rfl) rfl vr
 by_cases hT:4000 < (T p (0,0)).length
 ·rw [if_pos hT] at ec ⊢
  have e2:gSetRN 1 (gCall z7 1 (gConsA (gVar 0) gNilA)) [some (dPl p),none,none]=some (.rt (rxD "TooMany")):=by
   unfold gSetRN
   rw [ec]; rfl
  have e3:gTry (gSetRN 1 (gCall z7 1 (gConsA (gVar 0) gNilA))) (handOf CSX (fun c=>.list [.str c])) [some (dPl p),none,none]=some (.rt (.list [.str "TooMany"])):=by
   unfold gTry
   rw [e2]; rfl
  have:za2 [some (dPl p),none,none]=some (.rt (.list [.str "TooMany"])):=zhz e3
  rw [this]; rfl
 ·rw [if_neg hT] at ec ⊢
  have e2:gSetRN 1 (gCall z7 1 (gConsA (gVar 0) gNilA)) [some (dPl p),none,none]=some (.nx [some (dPl p),some (.list (rowsD [] (T p (0,0)))),none]):=by
   unfold gSetRN
   rw [ec]; rfl
  have e3:gTry (gSetRN 1 (gCall z7 1 (gConsA (gVar 0) gNilA))) (handOf CSX (fun c=>.list [.str c])) [some (dPl p),none,none]=some (.nx [some (dPl p),some (.list (rowsD [] (T p (0,0)))),none]):=by
   unfold gTry
   rw [e2]; rfl
  exact z5 (zH _ e3 (ret _ rfl (.mk rfl rfl)))
theorem zhR {β:Type} {α:Type} (e1 e2:α->D) (enc:β->D) (h:α->β) {gi:DS->Option (List D)} {ge:DS->Option D} {δ:DS} (l:List α) (hi:gi δ=some (l.map fun a=>.tuple [e1 a,e2 a])) (hl:l.length<=100000) (he:∀ a∈l,ge [some (e1 a),some (e2 a)]=some (enc (h a))):
  gCompL gi 2 [] (gTupT 2 (gConsT (gName' 0) (gConsT (gName' 1) gNilT))) (fun _=>some true) ge δ=some ((l.map h).map enc):=by
 unfold gCompL
 rw [hi,Option.bind_some,if_pos (by rw [List.length_map]; exact hl),zij (fun a=>PyData.tuple [e1 a,e2 a]) enc h (fun _=>true) l fun c hc=>?_,List.filter_eq_self.mpr fun _ _=>rfl]
 show Option.map some (ge [some (e1 c),some (e2 c)])=_
 rw [he c hc]; rfl
theorem zhL {go ge:DS->Option D} {δ:DS} {a b:Str} (h1:go δ=some (.str a)) (h2:ge δ=some (.str b)):gStarts go ge δ=some (.bool (Txt.startswith a b)):=by
 unfold gStarts; rw [h1,h2]; rfl
theorem zk2 {p:List (List Int)} (hp:Pl p) (hl:p.length<=24) (h25:∀ r∈p,r.length<=25) (s:Option D) (m:Int):Gets (((gSeq (gSet 3 (gCall zar 1 (gConsA (gVar 2) gNilA)))
  (gSeq (gIf (gB (g2 dGt (gB1 dSum (gConsA (gLst (gComp (gItems (gLst (gCallN zag 1 (gConsA (gVar 2) gNilA)))) [3] (gDget (gVar 1) (gVar 0)))) gNilA)) (gC (.int (4000))))) (gRet (g2 dEq (gLst (gCallN zD 1 (gConsA (gVar 2) gNilA))) (gLst (gLstN (gConsA (gC (.str "TooMany")) gNilA))))) gSkip)
  (gSeq (gSet 4 (gLst (gCompL (gItems (gLst (gCallN zay 1 (gConsA (gVar 2) gNilA)))) 2 [] (gTupT 2 (gConsT (gName' 0) (gConsT (gName' 1) gNilT))) (fun _=>some true) (gVar 0))))
  (gSeq (gSetN 5 (gCallN zD 1 (gConsA (gVar 2) gNilA)))
  (gSeq (gIf (gOr (gNot (gTru (gIsi "list" (gVar 5)))) (gOr (gB (g2 dNe (gVar 5) (gVar 4))) (gNot (gTru (gB1 dAll (gConsA (gLst (gComp (gItems (gVar 5)) [] (gIsi "str" (gVar 0)))) gNilA)))))) (gRet (gC (.bool false))) gSkip)
  (gSeq (gFor (gRange1 (gConsA (g2 dSub (gB1 dLen (gConsA (gVar 5) gNilA)) (gC (.int (1)))) gNilA)) (gName' 6)
   (gIf (gOr (gB (g2 dGeS (g2 dIx (gVar 5) (gVar 6)) (g2 dIx (gVar 5) (g2 dAddV (gVar 6) (gC (.int (1))))))) (gTru (gStarts (g2 dIx (gVar 5) (g2 dAddV (gVar 6) (gC (.int (1))))) (g2 dIx (gVar 5) (gVar 6))))) (gRet (gC (.bool false))) gSkip))
  (gSeq (gClear 5)
  (gRet (g2 dEq (gLst (gCallN zD 1 (gConsA (gVar 2) gNilA))) (gVar 4)))))))))) [s,some (.int m),some (dPl p),none,none,none,none]).bind gOut) fun d=>d=.bool true:=by
 obtain ⟨kds,ew,hd⟩:=zf6 hp hl h25
 have hel:=zf0 (p:=p) hl h25
 have vl:=zeb hp hl h25
 refine zH [s,some (.int m),some (dPl p),some (.dict kds),none,none,none] (zQ (zao (zf rfl rfl) rfl ew)) ?_
 have es:=zfX (ix:=[3]) (gi:=gItems (gLst (gCallN zag 1 (gConsA (gVar 2) gNilA)))) (gd:=gVar 1) (δ:=[s,some (.int m),some (dPl p),some (.dict kds),none,none,none]) hp hd (zdF (zO (zS (zf rfl rfl) rfl (ze0 hp hl h25)))) (by omega) fun c=>rfl
 by_cases hT:4000 < (T p (0,0)).length
 ·rw [decide_eq_true hT] at es
  rw [if_pos hT] at vl
  refine zce true es (fun _=>zcN (.bool true) (zk (zO (zS (zf rfl rfl) rfl vl)) (zO rfl) (zg8 (l:=["TooMany"]) fun s hs=>by rw [List.mem_singleton.mp hs]; decide +kernel)) (.mk rfl rfl)) fun z=>nomatch z
 ·rw [decide_eq_false hT] at es
  rw [if_neg hT] at vl
  refine zc4 es ?_
  have hT':(T p (0,0)).length<=4000:=by omega
  have vr:=zgd hl hT'
  have pw:=T_pw (p:=p) (0,0)
  have hne:=List.length_pos_iff.mpr (T_ne (p:=p) (0,0))
  generalize T p (0,0)=t at *
  refine zH [s,some (.int m),some (dPl p),some (.dict kds),some (.list (rowsD [] t)),none,none] (zQ (zO ?_)) ?_
  ·have:=zhR (fun w:List Bool=>PyData.str (tx w)) (fun w=>dC (go (0,0) w)) (fun w:List Bool=>PyData.str (tx w)) (fun w=>w) (gi:=gItems (gLst (gCallN zay 1 (gConsA (gVar 2) gNilA)))) (ge:=gVar 0) (δ:=[s,some (.int m),some (dPl p),some (.dict kds),none,none,none]) t (zdF (zO (zS (zf rfl rfl) rfl vr))) (by omega) fun w _=>rfl
   rw [List.map_id'] at this
   exact this
  refine zH [s,some (.int m),some (dPl p),some (.dict kds),some (.list (rowsD [] t)),some (.list (rowsD [] t)),none] (zgJ (zS (zf rfl rfl) rfl vl)) ?_
  have al:gB1 dAll (gConsA (gLst (gComp (gItems (gVar 5)) [] (gIsi "str" (gVar 0)))) gNilA) [s,some (.int m),some (dPl p),some (.dict kds),some (.list (rowsD [] t)),some (.list (rowsD [] t)),none]=some (.bool true):=by
   refine zja (zf (zO (zcS (fun w:List Bool=>PyData.str (tx w)) PyData.bool (fun _=>true) t rfl (by omega) fun w _=>rfl)) rfl) ?_
   show (boolsD ((t.map fun _=>true).map .bool)).map _=_
   rw [zdj]
   show some (PyData.bool ((t.map fun _=>true).all id))=_
   rw [List.all_eq_true.mpr fun b hb=>by obtain ⟨_,_,rfl⟩:=List.mem_map.mp hb; rfl]
  refine zc4 (zkE (zbW (zdJ (b:=true) rfl)) (zkE (zba (zk rfl rfl ((zma (zhD t)).trans rfl))) (zbW (zdJ (b:=true) al)))) ?_
  have el:∀ {δ:DS},gVar 5 δ=some (.list (rowsD [] t))->gB1 dLen (gConsA (gVar 5) gNilA) δ=some (.int (t.length:Nat)):=fun h=>zja (zf h rfl) (by unfold rowsD; rw [zj0,List.length_map])
  obtain ⟨n,hn⟩:∃ n:Nat,(t.length:Int) - 1=(n:Int):=⟨t.length - 1,by omega⟩
  refine zco 0 n (fun _ δ=>∃ a,δ=[s,some (.int m),some (dPl p),some (.dict kds),some (.list (rowsD [] t)),some (.list (rowsD [] t)),a]) (zcX (zf (zk (el rfl) rfl (show _=some (PyData.int (n:Nat)) by rw [<- hn]; rfl)) rfl) (by omega)) ⟨none,rfl⟩ ?_ ?_
  ·rintro i δ hi ⟨a,rfl⟩
   rw [Int.zero_add]
   refine ⟨_,[s,some (.int m),some (dPl p),some (.dict kds),some (.list (rowsD [] t)),some (.list (rowsD [] t)),some (.int (i:Nat))],rfl,?_,_,rfl⟩
   obtain ⟨u,eu⟩:∃ u,t[i]?=some u:=⟨_,List.getElem?_eq_getElem (show i < t.length by omega)⟩
   obtain ⟨v,ev⟩:∃ v,t[i + 1]?=some v:=⟨_,List.getElem?_eq_getElem (show i + 1 < t.length by omega)⟩
   have ho:Ord2 u v:=by
    obtain ⟨h1,rfl⟩:=List.getElem?_eq_some_iff.mp eu
    obtain ⟨h2,rfl⟩:=List.getElem?_eq_some_iff.mp ev
    exact List.pairwise_iff_getElem.mp pw i (i + 1) h1 h2 (Nat.lt_succ_self i)
   have iu:dIx (.list (rowsD [] t)) (.int (i:Nat))=some (.str (tx u)):=by
    rw [zlc]
    exact zcQ (by unfold rowsD; rw [List.getElem?_map,eu]; rfl)
   have iv:dIx (.list (rowsD [] t)) (.int ((i:Nat) + 1))=some (.str (tx v)):=by
    rw [zlc]
    exact zcQ (j:=i + 1) (by unfold rowsD; rw [List.getElem?_map,ev]; rfl)
   refine zlo (zkE (zba (zk (zk rfl rfl iu) (zk rfl (zk rfl rfl rfl) iv) ?_)) (zdJ (b:=false) ?_))
   ·show some (PyData.bool (!(decide ((tx u).cps.toList < (tx v).cps.toList))))=_
    rw [decide_eq_true (zlk ho)]; rfl
   ·rw [<- zlM ho]
    exact zhL (zk rfl (zk rfl rfl rfl) iv) (zk rfl rfl iu)
  ·rintro δ' ⟨a,rfl⟩
   refine zH [s,some (.int m),some (dPl p),some (.dict kds),some (.list (rowsD [] t)),some (.list []),a] rfl ?_
   exact ret (.bool true) (zk (zO (zS (zf rfl rfl) rfl vl)) rfl (zhD t)) (.mk rfl rfl)
theorem zjx (ns:List Int) (h:ns.length<=63):zgC [.list (ns.map .int)]=some (.bool true):=by
 rw [zmZ]
 refine z5 ?_
 obtain ⟨m,hm1,hm2,em⟩:=zgj (ns.getD 1 0)
 have cl:∀ {i:Nat} {δ:DS},gCall zP 2 (gConsA (gVar 0) (gConsA (gC (.int (i:Nat))) gNilA)) (some (.list (ns.map .int)) :: δ)=some (.int (ns.getD i 0)):=fun {i δ}=>zao (zf rfl (zf rfl rfl)) rfl (zf5 ns i)
 refine zH [some (.list (ns.map .int)),some (.int (m:Nat)),none,none,none,none,none] (zQ (zao (zf (cl (i:=1)) rfl) rfl em)) ?_
 obtain ⟨k,hk1,hk2,ek⟩:∃ k:Nat,1<=k /\ k<=24 /\ gIf (gB (g2 dEq (g2 dMod (g2 dDiv (gCall zP 2 (gConsA (gVar 0) (gConsA (gC (.int (1))) gNilA))) (gC (.int (1000)))) (gC (.int (8)))) (gC (.int (1))))) (gSet 1 (gC (.int (24)))) gSkip [some (.list (ns.map .int)),some (.int (m:Nat)),none,none,none,none,none]=some (.nx [some (.list (ns.map .int)),some (.int (k:Nat)),none,none,none,none,none]):=by
  have hb:gB (g2 dEq (g2 dMod (g2 dDiv (gCall zP 2 (gConsA (gVar 0) (gConsA (gC (.int (1))) gNilA))) (gC (.int (1000)))) (gC (.int (8)))) (gC (.int (1)))) [some (.list (ns.map .int)),some (.int (m:Nat)),none,none,none,none,none]=some (decide (ns.getD 1 0 / 1000 % 8=1)):=zba (zk (zk (zk (cl (i:=1)) rfl (dd 1000 (by decide) (by decide))) rfl (zbH (by decide))) rfl rfl)
  by_cases q:ns.getD 1 0 / 1000 % 8=1
  ·exact ⟨24,by decide,by decide,zcu true (hb.trans (by rw [decide_eq_true q])) (fun _=>rfl) fun z=>nomatch z⟩
  ·exact ⟨m,hm1,by omega,zlo (hb.trans (by rw [decide_eq_false q]))⟩
 refine zH _ ek ?_
 obtain ⟨_,ep,p,rfl,hp,hpl,h25⟩:=zgp (ns.getD 0 0) k hk1 hk2
 refine zH [some (.list (ns.map .int)),some (.int (k:Nat)),some (dPl p),none,none,none,none] (zQ (zao (zf (cl (i:=0)) (zf rfl rfl)) rfl ep)) ?_
 exact zk2 hp (Nat.le_trans hpl hk2) h25 _ _
end MyLaw
namespace MyLaw
open PySem L2 Q1
noncomputable abbrev zaT:Stmt:=top 18
theorem zdn:FnScope ["plan","count","draws"] ["plan","count"] (defScope zaT):=⟨rfl,rfl,rfl,by decide +kernel,rfl,by decide +kernel,by decide +kernel⟩
noncomputable abbrev zaF:Stmt:=top 19
theorem zbz:FnScope ["plan","told","draws","place"] ["plan"] (defScope zaF):=⟨rfl,rfl,rfl,by decide +kernel,rfl,by decide +kernel,by decide +kernel⟩
noncomputable abbrev zch:Stmt:=top 20
theorem zk8:FnScope ["plan"] ["plan"] (defScope zch):=⟨rfl,rfl,rfl,by decide +kernel,rfl,by decide +kernel,by decide +kernel⟩
noncomputable abbrev zah:Stmt:=top 21
theorem zbn:FnScope ["plan","told","draws","place"] ["plan"] (defScope zah):=⟨rfl,rfl,rfl,by decide +kernel,rfl,by decide +kernel,by decide +kernel⟩
noncomputable abbrev za3:Stmt:=top 22
theorem ziz:FnScope ["place"] ["place"] (defScope za3):=⟨rfl,rfl,rfl,by decide +kernel,rfl,by decide +kernel,by decide +kernel⟩
noncomputable abbrev zbC:Stmt:=top 23
theorem zje:FnScope ["count","sign"] ["count","sign"] (defScope zbC):=⟨rfl,rfl,rfl,by decide +kernel,rfl,by decide +kernel,by decide +kernel⟩
noncomputable abbrev zad:Stmt:=top 25
theorem zaH:FnScope ["plan","beginning","ways","count","many","led"] ["plan","beginning"] (defScope zad):=⟨rfl,rfl,rfl,by decide +kernel,rfl,by decide +kernel,by decide +kernel⟩
noncomputable abbrev zaG:Stmt:=top 28
theorem zda:FnScope ["plan","ways"] ["plan"] (defScope zaG):=⟨rfl,rfl,rfl,by decide +kernel,rfl,by decide +kernel,by decide +kernel⟩
noncomputable abbrev zM:Stmt:=top 29
theorem za9:FnScope ["plan","row","count","told"] ["plan","row","count"] (defScope zM):=⟨rfl,rfl,rfl,by decide +kernel,rfl,by decide +kernel,by decide +kernel⟩
noncomputable abbrev zau:Stmt:=top 31
theorem ze4:FnScope ["_law_script","_law_k"] ["_law_script","_law_k"] (defScope zau):=⟨rfl,rfl,rfl,by decide +kernel,rfl,by decide +kernel,by decide +kernel⟩
noncomputable abbrev zV:Stmt:=top 32
theorem zaL:FnScope ["_law_cell_here","_law_base","_law_many","_law_row","_law_k"] ["_law_cell_here","_law_base","_law_many"] (defScope zV):=⟨rfl,rfl,rfl,by decide +kernel,rfl,by decide +kernel,by decide +kernel⟩
noncomputable abbrev zab:Stmt:=top 33
theorem za6:FnScope ["_law_cell_here","_law_base","_law_many","_law_row","_law_k","_law_number"] ["_law_cell_here","_law_base","_law_many"] (defScope zab):=⟨rfl,rfl,rfl,by decide +kernel,rfl,by decide +kernel,by decide +kernel⟩
noncomputable abbrev zW:Stmt:=top 34
theorem zz:FnScope ["_law_cell_here","_law_most_here","_law_rest","_law_many","_law_digits_here","_law_rows_here","_law_come","_law_at","_law_row"] ["_law_cell_here","_law_most_here"] (defScope zW):=⟨rfl,rfl,rfl,by decide +kernel,rfl,by decide +kernel,by decide +kernel⟩
noncomputable abbrev zat:Stmt:=top 35
theorem zfb:FnScope ["_law_cell_here"] ["_law_cell_here"] (defScope zat):=⟨rfl,rfl,rfl,by decide +kernel,rfl,by decide +kernel,by decide +kernel⟩
noncomputable abbrev zax:Stmt:=top 36
theorem zaU:FnScope ["_law_plan_here","_law_found","_law_pile","_law_row","_law_bad"] ["_law_plan_here"] (defScope zax):=⟨rfl,rfl,rfl,by decide +kernel,rfl,by decide +kernel,by decide +kernel⟩
noncomputable abbrev zaz:Stmt:=top 37
theorem zae:FnScope ["_law_plan_here","_law_ways_here","_law_n","_law_row","_law_bad","_law_here","_law_count"] ["_law_plan_here"] (defScope zaz):=⟨rfl,rfl,rfl,by decide +kernel,rfl,by decide +kernel,by decide +kernel⟩
noncomputable abbrev zX:Stmt:=top 38
theorem zav:FnScope ["_law_plan_here","_law_found","_law_n","_law_on","_law_come"] ["_law_plan_here"] (defScope zX):=⟨rfl,rfl,rfl,by decide +kernel,rfl,by decide +kernel,by decide +kernel⟩
noncomputable abbrev zaj:Stmt:=top 39
theorem zU:FnScope ["_law_e","_law_named","_law_words","_law_some"] ["_law_e"] (defScope zaj):=⟨rfl,rfl,rfl,by decide +kernel,rfl,by decide +kernel,by decide +kernel⟩
noncomputable abbrev zT:Stmt:=top 40
theorem zbh:FnScope ["_law_plan_here","_law_found","_law_e"] ["_law_plan_here"] (defScope zT):=⟨rfl,rfl,rfl,by decide +kernel,rfl,by decide +kernel,by decide +kernel⟩
noncomputable abbrev zbN:Stmt:=top 41
theorem zci:FnScope ["_law_script","_law_most_here","_law_plan_here","_law_ways_here","_law_due","_law_found","_law_k"] ["_law_script"] (defScope zbN):=⟨rfl,rfl,rfl,by decide +kernel,rfl,by decide +kernel,by decide +kernel⟩
section
variable {P:Program} {w:World} {K:PySem.W.Frag} {mg:Str->Option Value} {base:Heap}
theorem zgw (F:Df K mg "goes_on" zaT ["plan","count"]) (B:Bs mg):Dn P w K mg base 1 "goes_on" ["plan","count"] (spD K 2 zaE):=
 zcC [] zcD F zdn fun f cdv A outer s H E hr=>(zg (zF (zq (i:=2) zdn.nd rfl (Or.inl rfl) (zr zy zp (PE.sh (zaR (zb (pv 1)) (PE.sh (zd ze)))) (PE.sh (zaR (zb (pv 1)) (PE.sh (zd ze)))))))
  (zl (za1 (zmj (zjK zm0 zaV zhV zaV (PE.sh (zd ze)) (zb (pv 2)) (PE.sh (zw zA z0 rfl B.len zaJ (zh (zb (pv 0)) zo)))) (zlK (zfC zjS zjW (PE.sh (zaR (zb (pv 1)) (PE.sh (zd ze)))) (PE.sh (zaR (zb (pv 0)) (zb (pv 2)))) (by with_unfolding_all rfl)))))))
theorem zhx (F:Df K mg "led_to" za3 ["place"]) (B:Bs mg):Dn P w K mg base 1 "led_to" ["place"] (spN K 1 zbi):=
 zaY [] zdO F ziz fun f cdv A outer s H E hr=>(zl (zcw (zcd B.sorted B.set (PE.sh (PE.nE (zcK zbs zbw (PE.sh (PE.nE (zc9 zcj zfD rfl B.list zeP (zh (zb (pv 0)) zo)))) (PE.sh (PE.nE (PE.asC (zaD (defScope za3) ["place"] [] ["bad"] ["bad"] own1 (PI.c (zan (zj (pv 0)))) (fun _ _ _ _ _ _=>(zm (zu (i:=0) (show (["bad"]:List Str).Nodup from by decide +kernel) rfl (Or.inl rfl)))) (fun _ _ _ _ _ _=>zbl) (fun _ _ _ _ _ _=>(zr zy zp (zb (pv 0)) (PE.sh (zd ze))))))))))))))
theorem zgz (F:Df K mg "come_to" zaF ["plan"]) (B:Bs mg) (D_led_to:Dn P w K mg base 1 "led_to" ["place"] (spN K 1 zbi)):Dn P w K mg base 2 "come_to" ["plan"] (spN K 1 zaZ):=
 zaY [1] zcF F zbz fun f cdv A outer s H E hr=>(zg (za8 (zq (i:=1) zbz.nd rfl (Or.inl rfl) (zaq (za (zap (za (zd ze) (za (zd ze) zc))) zc))))
  (zg (zbu PassesOwn.never rfl (zjg B.enumerate (zj (pv 0))) (zcE rfl (zaC (zm (zu (i:=2) zbz.nd rfl (Or.inr rfl))) (zaC (zm (zu (i:=3) zbz.nd rfl (Or.inl rfl))) zcL)))
   (zl (zbV (za0 (zcm PySem.F.plainAttrs_list PySem.F.slot_list_extend PySem.F.type_list_extend zbU (pv 1) (zC (PE.asC (zaD (defScope zaF) ["plan","told","draws","place"] [2] ["bad","draws"] ["bad"] own1 (PI.c (zan (PE.nE (zR D_led_to hr (by decide) (za (zj (pv 3)) zc))))) (fun _ _ _ _ _ _=>(zm (zu (i:=0) (show (["bad","draws"]:List Str).Nodup from by decide +kernel) rfl (Or.inl rfl)))) (fun _ _ _ _ _ _=>zbl) (fun _ _ _ _ _ _=>(zap (za (zj (pv 0)) (za (zr zbq zcz (zb (pv 1)) (zb (pv 0))) zc)))))) zY))))))
  (zl (z8 (pv 1)))))
theorem zkW (F:Df K mg "ends" zch ["plan"]) (B:Bs mg) (D_come_to:Dn P w K mg base 2 "come_to" ["plan"] (spN K 1 zaZ)) (D_goes_on:Dn P w K mg base 1 "goes_on" ["plan","count"] (spD K 2 zaE)):Dn P w K mg base 3 "ends" ["plan"] (spN K 1 zdd):=
 zaY [] zhn F zk8 fun f cdv A outer s H E hr=>(zl (zcw (zaD (defScope zch) ["plan"] [0] ["count","plan"] ["count"] own1 (PI.c (zan (PE.nE (zR D_come_to hr (by decide) (za (zj (pv 0)) zc))))) (fun _ _ _ _ _ _=>(zm (zu (i:=0) (show (["count","plan"]:List Str).Nodup from by decide +kernel) rfl (Or.inl rfl)))) (fun _ _ _ _ _ _=>(zfI (zcH (zbk (PE.sh (zaA D_goes_on hr (by decide) (za (zj (pv 1)) (za (zj (pv 0)) zc)))))))) (fun _ _ _ _ _ _=>(zj (pv 0))))))
theorem ze2 (F:Df K mg "drawn_on" zah ["plan"]) (B:Bs mg):Dn P w K mg base 1 "drawn_on" ["plan"] (spN K 1 zaQ):=
 zaY [1] zbZ F zbn fun f cdv A outer s H E hr=>(zg (za8 (zq (i:=1) zbn.nd rfl (Or.inl rfl) (zaq zc)))
  (zg (zbu PassesOwn.never rfl (zfY B.enumerate (zj (pv 0))) (zcE rfl (zaC (zm (zu (i:=2) zbn.nd rfl (Or.inr rfl))) (zaC (zm (zu (i:=3) zbn.nd rfl (Or.inl rfl))) zcL)))
   (zl (zbV (za0 (zcm PySem.F.plainAttrs_list PySem.F.slot_list_extend PySem.F.type_list_extend zbU (pv 1) (zC (PE.asC (zaD (defScope zah) ["plan","told","draws","place"] [2] ["bad","draws"] ["bad"] own1 (PI.c (zan (zj (pv 3)))) (fun _ _ _ _ _ _=>(zm (zu (i:=0) (show (["bad","draws"]:List Str).Nodup from by decide +kernel) rfl (Or.inl rfl)))) (fun _ _ _ _ _ _=>zbl) (fun _ _ _ _ _ _=>(zap (za (zj (pv 0)) (za (zr zbq zcz (zb (pv 1)) (zb (pv 0))) zc)))))) zY))))))
  (zl (z8 (pv 1)))))
theorem zjL (F:Df K mg "after" zbC ["count","sign"]) (B:Bs mg):Dn P w K mg base 1 "after" ["count","sign"] (spD K 2 z6):=
 zcC [] zeZ F zje fun f cdv A outer s H E hr=>(zg (zbE (zJ (zek hr) zea (zb (pv 1)) (PE.sh (zaW zaI)) (nomark _)) (zl (za1 (zap (za (zr zy zp (PE.sh (zaR (zb (pv 0)) (PE.sh (zd ze)))) (PE.sh (zd ze))) (za (zaR (zb (pv 0)) (PE.sh (zd ze))) zc))))) za7)
  (zl (za1 (zap (za (zaR (zb (pv 0)) (PE.sh (zd ze))) (za (zr zy zp (PE.sh (zaR (zb (pv 0)) (PE.sh (zd ze)))) (PE.sh (zd ze))) zc))))))
theorem zd6 (F:Df K mg "ways_from" zad ["plan","beginning"]) (B:Bs mg) (D_after:Dn P w K mg base 1 "after" ["count","sign"] (spD K 2 z6)) (D_drawn_on:Dn P w K mg base 1 "drawn_on" ["plan"] (spN K 1 zaQ)):Dn P w K mg base 2 "ways_from" ["plan","beginning"] (spD K 2 zaw):=
 zcC [2] zbD F zaH fun f cdv A outer s H E hr=>let hu:=Nat.lt_of_le_of_lt (Nat.add_le_add_left (show 1<=64 by decide) _) hr.units
  (zg (zgP (zq (i:=2) zaH.nd rfl (Or.inl rfl) (zf2 hu (zb (pv 1)) (zd ze))))
  (zg (zbu PassesOwn.never rfl (zan (PE.nE (zR D_drawn_on hr (by decide) (za (zj (pv 0)) zc)))) (zm (zu (i:=3) zaH.nd rfl (Or.inl rfl)))
   (zg (zF (zq (i:=4) zaH.nd rfl (Or.inl rfl) (zdP hu (zb (pv 2)) (zb (pv 3)) (zd ze))))
  (zl (zbu PassesOwn.never rfl (zan (zap (za (zaA D_after hr (by decide) (za (zj (pv 3)) (za (zaW zaI) zc))) (za (zaA D_after hr (by decide) (za (zj (pv 3)) (za (zaW zaI) zc))) zc)))) (zm (zu (i:=5) zaH.nd rfl (Or.inl rfl)))
   (zl (zht (zhg hu (pv 2) (zb (pv 5)) (zr zy zp (PE.sh (zdP hu (zb (pv 2)) (zb (pv 5)) (zd ze))) (zb (pv 4))) (by rfl))))))))
  (zl (z8 (pv 2)))))
theorem zc2 (F:Df K mg "rows_behind" zM ["plan","row","count"]) (B:Bs mg) (D_after:Dn P w K mg base 1 "after" ["count","sign"] (spD K 2 z6)) (D_goes_on:Dn P w K mg base 1 "goes_on" ["plan","count"] (spD K 2 zaE)):Dn P w K mg base 28 "rows_behind" ["plan","row","count"] (spN K 3 zaM):=by
 have okF:∀ n,Dn P w K mg base (2 + n) "rows_behind" ["plan","row","count"] (spN K 3 (zt n)):=fun n=>by
  induction n with
  | zero=>exact zaY (k:=1) [3] (fun _=>none) F za9 fun f cdv A outer s H E hr=>zhB
  | succ n D_rows_behind=>exact zaY (k:=2 + n) [3] (zbj (zt n)) F za9 fun f cdv A outer s H E hr=>(zg (zbE (zcH (zbk (PE.sh (zaA D_goes_on hr (by omega) (za (zj (pv 0)) (za (zj (pv 2)) zc)))))) (zl (zcw (zaq (za (zj (pv 1)) zc)))) za7)
  (zg (za8 (zq (i:=3) za9.nd rfl (Or.inl rfl) (zR D_rows_behind hr (by omega) (za (zj (pv 0)) (za (zr zy zp (zb (pv 1)) (PE.sh (zaW zaI))) (za (zaA D_after hr (by omega) (za (zj (pv 2)) (za (zaW zaI) zc))) zc))))))
  (zg (zbV (za0 (zcm PySem.F.plainAttrs_list PySem.F.slot_list_extend PySem.F.type_list_extend zbU (pv 3) (zC (zR D_rows_behind hr (by omega) (za (zj (pv 0)) (za (zr zy zp (zb (pv 1)) (PE.sh (zaW zaI))) (za (zaA D_after hr (by omega) (za (zj (pv 2)) (za (zaW zaI) zc))) zc)))) zY))))
  (zl (z8 (pv 3))))))
 exact okF 26
theorem zfl (F:Df K mg "rows_of" zaG ["plan"]) (B:Bs mg) (C_MOST_ROWS:Cn mg "MOST_ROWS" (.int (4000))) (X_TooMany:∃ C tl,ExC K mg "TooMany" C VE tl "ValueError.__new__") (D_ends:Dn P w K mg base 3 "ends" ["plan"] (spN K 1 zdd)) (D_rows_behind:Dn P w K mg base 28 "rows_behind" ["plan","row","count"] (spN K 3 zaM)) (D_ways_from:Dn P w K mg base 2 "ways_from" ["plan","beginning"] (spD K 2 zaw)):DnR P w K mg base 29 "rows_of" ["plan"] (spRN K mg 1 z7):=by
 obtain ⟨_,_,X_TooMany⟩:=X_TooMany; exact zjJ [] zcM F zda fun f cdv A outer s H E hr=>let hu:=Nat.lt_of_le_of_lt (Nat.add_le_add_left (show 1<=64 by decide) _) hr.units
  (zg (zF (zq (i:=1) zda.nd rfl (Or.inr rfl) (zaA D_ways_from hr (by decide) (za (zj (pv 0)) (za (zap (za (zd ze) (za (zd ze) zc))) zc)))))
  (zg (zbE (zJ zeh zaV (PE.sh (zw (zee rfl) zgI rfl B.sum zkb (zh (PE.sh (PE.nE (PE.asC (zaD (defScope zaG) ["plan","ways"] [1] ["end","ways"] ["end"] own1 (PI.c (zan (PE.nE (zR D_ends hr (by decide) (za (zj (pv 0)) zc))))) (fun _ _ _ _ _ _=>(zm (zu (i:=0) (show (["end","ways"]:List Str).Nodup from by decide +kernel) rfl (Or.inl rfl)))) (fun _ _ _ _ _ _=>zbl) (fun _ _ _ _ _ _=>(zfp hu (zb (pv 1)) (zb (pv 0)))))))) zo))) (PE.sh (zd (zl5 C_MOST_ROWS))) (nomark _)) (zl (zi1 X_TooMany PySem.F.excBase_ValueError (by decide) PySem.F.excBase_ValueError zaI)) za7)
  (zl (zcw (zR D_rows_behind hr (by decide) (za (zj (pv 0)) (za (zaW zaI) (za (zap (za (zd ze) (za (zd ze) zc))) zc))))))))
theorem zeY (F:Df K mg "_law_cell" zau ["_law_script","_law_k"]) (B:Bs mg):Dn P w K mg base 1 "_law_cell" ["_law_script","_law_k"] (spD K 2 zP):=
 zcC [] zb7 F ze4 fun f cdv A outer s H E hr=>(zg (zbE (zJ zhV zaV (zb (pv 1)) (PE.sh (zw zA z0 rfl B.len zaJ (zh (zb (pv 0)) zo))) (nomark _)) (zl (za1 (zaR (zb (pv 0)) (zb (pv 1))))) za7)
  (zl (za1 (zd ze))))
theorem zdI (F:Df K mg "_law_digits" zV ["_law_cell_here","_law_base","_law_many"]) (B:Bs mg):Dn P w K mg base 1 "_law_digits" ["_law_cell_here","_law_base","_law_many"] (spN K 3 zak):=
 zaY [3] zbp F zaL fun f cdv A outer s H E hr=>(zg (za8 (zq (i:=3) zaL.nd rfl (Or.inl rfl) (zaq zc)))
  (zg (zbu PassesOwn.never rfl (zct B.range (za (zj (pv 2)) zc)) (zm (zu (i:=4) zaL.nd rfl (Or.inl rfl)))
   (zg (zbe (za0 (zcm PySem.F.plainAttrs_list PySem.F.slot_list_append PySem.F.type_list_append zbf (pv 3) (zC (zr zaB zK (zb (pv 0)) (zb (pv 1))) zY))))
  (zl (zF (zq (i:=0) zaL.nd rfl (Or.inl rfl) (zr zby zK (zb (pv 0)) (zb (pv 1))))))))
  (zl (z8 (pv 3)))))
theorem zeF (F:Df K mg "_law_mixes" zab ["_law_cell_here","_law_base","_law_many"]) (B:Bs mg):Dn P w K mg base 1 "_law_mixes" ["_law_cell_here","_law_base","_law_many"] (spN K 3 zaX):=
 zaY [3] zbB F za6 fun f cdv A outer s H E hr=>(zg (za8 (zq (i:=3) za6.nd rfl (Or.inl rfl) (zaq zc)))
  (zg (zbu PassesOwn.never rfl (zct B.range (za (zj (pv 2)) zc)) (zm (zu (i:=4) za6.nd rfl (Or.inl rfl)))
   (zg (zF (zq (i:=5) za6.nd rfl (Or.inl rfl) (zr zaB zK (PE.sh (zr zy zp (PE.sh (zr zy zp (PE.sh (zr zbY zK (PE.sh (zr zaB zK (zb (pv 0)) (PE.sh (zd ze)))) (PE.sh (zd ze)))) (PE.sh (zr zbY zK (PE.sh (zr zbY zK (zb (pv 4)) (zb (pv 4)))) (PE.sh (zd ze)))))) (PE.sh (zr zbY zK (zb (pv 4)) (PE.sh (zd ze)))))) (PE.sh (zd ze)))))
  (zl (zbe (za0 (zcm PySem.F.plainAttrs_list PySem.F.slot_list_append PySem.F.type_list_append zbf (pv 3) (zC (zr zaB zK (PE.sh (zr zby zK (PE.sh (zr zaB zK (PE.sh (zr zy zp (PE.sh (zr zbY zK (zb (pv 5)) (PE.sh (zd ze)))) (zb (pv 0)))) (PE.sh (zd ze)))) (PE.sh (zd ze)))) (zb (pv 1))) zY)))))))
  (zl (z8 (pv 3)))))
theorem zfr (F:Df K mg "_law_plan" zW ["_law_cell_here","_law_most_here"]) (B:Bs mg) (D_law_digits:Dn P w K mg base 1 "_law_digits" ["_law_cell_here","_law_base","_law_many"] (spN K 3 zak)) (D_law_mixes:Dn P w K mg base 1 "_law_mixes" ["_law_cell_here","_law_base","_law_many"] (spN K 3 zaX)):Dn P w K mg base 2 "_law_plan" ["_law_cell_here","_law_most_here"] (spD K 2 zbb):=
 zcC [5] zb5 F zz fun f cdv A outer s H E hr=>(zg (zF (zq (i:=2) zz.nd rfl (Or.inl rfl) (zr zby zK (zb (pv 0)) (PE.sh (zd ze)))))
  (zg (zF (zq (i:=3) zz.nd rfl (Or.inr rfl) (zr zy zp (PE.sh (zd ze)) (PE.sh (zr zbY zK (PE.sh (zd ze)) (PE.sh (zcx zg5 zlb rfl B.int zlT (zh (PE.sh (zfC zeh zaV (zb (pv 1)) (PE.sh (zd ze)) (nomark _))) zo))))))))
  (zg (zF (zq (i:=4) zz.nd rfl (Or.inr rfl) (PE.nE (zR D_law_mixes hr (by decide) (za (zj (pv 2)) (za (zd ze) (za (zj (pv 3)) zc)))))))
  (zg (zbE (zJ zmL zaV (PE.sh (zw zju zkD rfl B.abs zlS (zh (zb (pv 0)) zo))) (PE.sh (zr zlY zK (PE.sh (zd ze)) (PE.sh (zd ze)))) (nomark _)) (zl (zF (zq (i:=4) zz.nd rfl (Or.inr rfl) (PE.nE (zR D_law_digits hr (by decide) (za (zj (pv 2)) (za (zd ze) (za (zj (pv 3)) zc)))))))) za7)
  (zg (za8 (zq (i:=5) zz.nd rfl (Or.inl rfl) (zaq (za (zap (za (zd ze) zc)) zc))))
  (zg (zF (zq (i:=6) zz.nd rfl (Or.inl rfl) (PE.nE (zaq (za (zd ze) (za (zd ze) zc))))))
  (zg (zF (zq (i:=7) zz.nd rfl (Or.inr rfl) (zd ze)))
  (zg (zfW PassesOwn.never (PW.pt (zh3 (zJ zhV zaV (PE.sh (zw zA z0 rfl B.len zaJ (zh (zb (pv 5)) zo))) (zb (pv 1)) (nomark _)) (zhs (zJ zeh zaV (PE.sh (zw zA z0 rfl B.len zaJ (zh (zb (pv 6)) zo))) (PE.sh (zd ze)) (nomark _))))) (zg (zF (PS.nE (zfE (i:=8) (defScope zW) ["_law_cell_here","_law_most_here","_law_rest","_law_many","_law_digits_here","_law_rows_here","_law_come","_law_at","_law_row"] [4,3,7] ["_law_k","_law_bad","_law_digits_here","_law_many","_law_at"] ["_law_k","_law_bad"] zz.nd rfl rfl own2 (PI.c (zet B.enumerate (zj (pv 6)))) (fun _ _ _ _ _ _=>(zcE rfl (zaC (zm (zu (i:=0) (show (["_law_k","_law_bad","_law_digits_here","_law_many","_law_at"]:List Str).Nodup from by decide +kernel) rfl (Or.inl rfl))) (zaC (zm (zu (i:=1) (show (["_law_k","_law_bad","_law_digits_here","_law_many","_law_at"]:List Str).Nodup from by decide +kernel) rfl (Or.inl rfl))) zcL)))) (fun _ _ _ _ _ _=>(zfI (zJ zeh zaV (PE.sh (zaR (zb (pv 2)) (PE.sh (zr zaB zK (PE.sh (zr zy zp (zb (pv 4)) (zb (pv 0)))) (zb (pv 3)))))) (PE.sh (zd ze)) (nomark _)))) (fun _ _ _ _ _ _=>(zj (pv 1))))))
  (zg (zF (zq (i:=7) zz.nd rfl (Or.inr rfl) (zr zy zp (zb (pv 7)) (PE.sh (zw zA z0 rfl B.len zaJ (zh (zb (pv 6)) zo))))))
  (zg (zbE (zJ zeh zaV (PE.sh (zr zaB zK (zb (pv 0)) (PE.sh (zd ze)))) (PE.sh (zd ze)) (nomark _)) (zl (zF (zq (i:=8) zz.nd rfl (Or.inl rfl) (PE.nE (zmG (zb (pv 6)) (zfM (PE.sh (zaR (zb (pv 4)) (PE.sh (zr zaB zK (zb (pv 7)) (zb (pv 3))))))) (zfM (PE.sh (zw (zhw rfl) zkF rfl B.max zmf (zh (PE.sh (zd ze)) (zh (PE.sh (zr zbq zcz (PE.sh (zw zA z0 rfl B.len zaJ (zh (zb (pv 6)) zo))) (PE.sh (zaR (zb (pv 4)) (PE.sh (zr zaB zK (PE.sh (zr zy zp (zb (pv 7)) (PE.sh (zd ze)))) (zb (pv 3)))))))) zo)))))))))) za7)
  (zg (zF (zq (i:=6) zz.nd rfl (Or.inl rfl) (PE.nE (zcd B.sorted B.set (PE.sh (PE.nE (zcK zbs zbw (zb (pv 8)) (PE.sh (PE.nE (PE.asC (zaD (defScope zW) ["_law_cell_here","_law_most_here","_law_rest","_law_many","_law_digits_here","_law_rows_here","_law_come","_law_at","_law_row"] [] ["_law_bad"] ["_law_bad"] own1 (PI.c (zan (zj (pv 8)))) (fun _ _ _ _ _ _=>(zm (zu (i:=0) (show (["_law_bad"]:List Str).Nodup from by decide +kernel) rfl (Or.inl rfl)))) (fun _ _ _ _ _ _=>zbl) (fun _ _ _ _ _ _=>(zr zy zp (zb (pv 0)) (PE.sh (zd ze)))))))))))))))
  (zl (zbE (zJ zeh zaV (PE.sh (zw zA z0 rfl B.len zaJ (zh (zb (pv 8)) zo))) (PE.sh (zd ze)) (nomark _)) (zl (zbe (za0 (zcm PySem.F.plainAttrs_list PySem.F.slot_list_append PySem.F.type_list_append zbf (pv 5) (zC (zcx zbJ zd9 rfl B.tuple zf1 (zh (zb (pv 8)) zo)) zY))))) za7)))))))
  (zl (za1 (zcx zbJ zd9 rfl B.tuple zf1 (zh (zb (pv 5)) zo))))))))))))
theorem zeL (F:Df K mg "_law_most" zat ["_law_cell_here"]) (B:Bs mg):Dn P w K mg base 1 "_law_most" ["_law_cell_here"] (spD K 1 zbg):=
 zcC [] zb9 F zfb fun f cdv A outer s H E hr=>(zg (zbE (zJ (zek hr) zea (PE.sh (zr zaB zK (PE.sh (zr zby zK (zb (pv 0)) (PE.sh (zd ze)))) (PE.sh (zd ze)))) (PE.sh (zd ze)) (nomark _)) (zl (za1 (zr zy zp (PE.sh (zd ze)) (PE.sh (zr zaB zK (PE.sh (zr zby zK (zb (pv 0)) (PE.sh (zd ze)))) (PE.sh (zd ze))))))) za7)
  (zl (za1 (zr zy zp (PE.sh (zd ze)) (PE.sh (zr zaB zK (zb (pv 0)) (PE.sh (zd ze))))))))
theorem zeS (F:Df K mg "_law_rows" zax ["_law_plan_here"]) (B:Bs mg):Dn P w K mg base 1 "_law_rows" ["_law_plan_here"] (spN K 1 zay):=
 zaY [1,2] zb6 F zaU fun f cdv A outer s H E hr=>(zg (za8 (zq (i:=1) zaU.nd rfl (Or.inl rfl) (zaq zc)))
  (zg (za8 (zq (i:=2) zaU.nd rfl (Or.inl rfl) (zaq (za (zaW zaI) zc))))
  (zg (zfW PassesOwn.never (zJ zeh zaV (PE.sh (zw zA z0 rfl B.len zaJ (zh (zb (pv 2)) zo))) (PE.sh (zd ze)) (nomark _)) (zg (zhG (j:=2) (zq (i:=3) zaU.nd rfl (Or.inl rfl) (zjM PySem.F.plainAttrs_list PySem.F.slot_list_pop PySem.F.type_list_pop zl1 (pv 2))))
  (zg (zF (zq (i:=4) zaU.nd rfl (Or.inl rfl) (zi6 (zb (pv 3)) (PE.sh (zaW zaI)))))
  (zl (zbE (PW.pt (zh3 (zJ zhV zaV (PE.sh (zw zA z0 rfl B.len zaJ (zh (zb (pv 3)) zo))) (PE.sh (zw zA z0 rfl B.len zaJ (zh (zb (pv 0)) zo))) (nomark _)) (zhs (zJ zjS zjW (zb (pv 4)) (PE.sh (zaR (zb (pv 0)) (PE.sh (zw zA z0 rfl B.len zaJ (zh (zb (pv 3)) zo))))) (by with_unfolding_all rfl))))) (zg (zbe (za0 (zcm PySem.F.plainAttrs_list PySem.F.slot_list_append PySem.F.type_list_append zbf (pv 2) (zC (zr zy zp (zb (pv 3)) (PE.sh (zaW zaI))) zY))))
  (zl (zbe (za0 (zcm PySem.F.plainAttrs_list PySem.F.slot_list_append PySem.F.type_list_append zbf (pv 2) (zC (zr zy zp (zb (pv 3)) (PE.sh (zaW zaI))) zY)))))) (zl (zbe (za0 (zcm PySem.F.plainAttrs_list PySem.F.slot_list_append PySem.F.type_list_append zbf (pv 1) (zC (zap (za (zj (pv 3)) (za (zap (za (zj (pv 4)) (za (zr zbq zcz (PE.sh (zw zA z0 rfl B.len zaJ (zh (zb (pv 3)) zo))) (zb (pv 4))) zc))) zc))) zY))))))))))
  (zl (z8 (pv 1))))))
theorem ze1 (F:Df K mg "_law_ways" zaz ["_law_plan_here"]) (B:Bs mg):Dn P w K mg base 1 "_law_ways" ["_law_plan_here"] (spD K 1 zar):=
 zcC [1] zb4 F zae fun f cdv A outer s H E hr=>let hu:=Nat.lt_of_le_of_lt (Nat.add_le_add_left (show 1<=64 by decide) _) hr.units
  (zg (zgP (zq (i:=1) zae.nd rfl (Or.inl rfl) (zf2 hu (PE.sh (zap (za (zd ze) (za (zd ze) zc)))) (zd ze))))
  (zg (zbu PassesOwn.never rfl (zfY B.enumerate (zj (pv 0))) (zcE rfl (zaC (zm (zu (i:=2) zae.nd rfl (Or.inl rfl))) (zaC (zm (zu (i:=3) zae.nd rfl (Or.inl rfl))) zcL)))
   (zl (zbu PassesOwn.never rfl (zan (zj (pv 3))) (zm (zu (i:=4) zae.nd rfl (Or.inl rfl)))
   (zg (zF (zq (i:=5) zae.nd rfl (Or.inl rfl) (zfp hu (zb (pv 1)) (PE.sh (zap (za (zj (pv 4)) (za (zr zbq zcz (zb (pv 2)) (zb (pv 4))) zc)))))))
  (zl (zbu PassesOwn.never rfl (zan (zap (za (zap (za (zr zy zp (zb (pv 4)) (PE.sh (zd ze))) (za (zr zbq zcz (zb (pv 2)) (zb (pv 4))) zc))) (za (zap (za (zj (pv 4)) (za (zr zy zp (PE.sh (zr zbq zcz (zb (pv 2)) (zb (pv 4)))) (PE.sh (zd ze))) zc))) zc)))) (zm (zu (i:=6) zae.nd rfl (Or.inl rfl)))
   (zl (zht (zhg hu (pv 1) (zb (pv 6)) (zr zy zp (PE.sh (zdP hu (zb (pv 1)) (zb (pv 6)) (zd ze))) (zb (pv 5))) (by rfl))))))))))
  (zl (z8 (pv 1)))))
theorem zfq (F:Df K mg "_law_ends" zX ["_law_plan_here"]) (B:Bs mg):Dn P w K mg base 1 "_law_ends" ["_law_plan_here"] (spN K 1 zag):=
 zaY [1] zb8 F zav fun f cdv A outer s H E hr=>(zg (za8 (zq (i:=1) zav.nd rfl (Or.inl rfl) (zaq zc)))
  (zg (zbu PassesOwn.never rfl (zhr B.range (za (zd ze) (za (zr zy zp (PE.sh (zw zA z0 rfl B.len zaJ (zh (zb (pv 0)) zo))) (PE.sh (zd ze))) zc))) (zm (zu (i:=2) zav.nd rfl (Or.inr rfl)))
   (zg (zF (zq (i:=3) zav.nd rfl (Or.inr rfl) (zap zc)))
  (zg (zbE (zJ zhV zaV (zb (pv 2)) (PE.sh (zw zA z0 rfl B.len zaJ (zh (zb (pv 0)) zo))) (nomark _)) (zl (zF (zq (i:=3) zav.nd rfl (Or.inr rfl) (zaR (zb (pv 0)) (zb (pv 2)))))) za7)
  (zg (zF (zq (i:=4) zav.nd rfl (Or.inl rfl) (PE.nE (zcd B.sorted B.set (PE.sh (PE.nE (zcK zbs zbw (PE.sh (PE.nE (zc9 zcj zfD rfl B.list zeP (zh (PE.sh (zaR (zb (pv 0)) (PE.sh (zr zbq zcz (zb (pv 2)) (PE.sh (zd ze)))))) zo)))) (PE.sh (PE.nE (PE.asC (zaD (defScope zX) ["_law_plan_here","_law_found","_law_n","_law_on","_law_come"] [] ["_law_bad"] ["_law_bad"] own1 (PI.c (zan (zaR (zb (pv 0)) (PE.sh (zr zbq zcz (zb (pv 2)) (PE.sh (zd ze))))))) (fun _ _ _ _ _ _=>(zm (zu (i:=0) (show (["_law_bad"]:List Str).Nodup from by decide +kernel) rfl (Or.inl rfl)))) (fun _ _ _ _ _ _=>zbl) (fun _ _ _ _ _ _=>(zr zy zp (zb (pv 0)) (PE.sh (zd ze)))))))))))))))
  (zl (zbV (za0 (zcm PySem.F.plainAttrs_list PySem.F.slot_list_extend PySem.F.type_list_extend zbU (pv 1) (zC (zaD (defScope zX) ["_law_plan_here","_law_found","_law_n","_law_on","_law_come"] [2,3] ["_law_bad","_law_n","_law_on"] ["_law_bad"] own1 (PI.c (zan (zj (pv 4)))) (fun _ _ _ _ _ _=>(zm (zu (i:=0) (show (["_law_bad","_law_n","_law_on"]:List Str).Nodup from by decide +kernel) rfl (Or.inl rfl)))) (fun _ _ _ _ _ _=>(zfI (zJ zhd zic (zb (pv 0)) (zb (pv 2)) (by with_unfolding_all rfl)))) (fun _ _ _ _ _ _=>(zap (za (zj (pv 0)) (za (zr zbq zcz (zb (pv 1)) (zb (pv 0))) zc))))) zY)))))))))
  (zl (z8 (pv 1)))))
theorem zem (F:Df K mg "_law_word" zaj ["_law_e"]) (B:Bs mg) (CT:ClTs K mg CSX TSX) (zVE:mg "ValueError"=none) (kVE:ClT K CSX "ValueError" (.type "ValueError")):DnW P w K mg base 1 "_law_word" ["_law_e"] (fun y=>spD K 1 (zaO y)):=by
 refine zkw [] zdf F zU fun y f cdv A outer s H hr hy=>?_
 refine zg ?_ ?_
 ·exact (zF (zq (i:=1) zU.nd rfl (Or.inr rfl) (PE.nE (zaq (za (zaf CSX TSX CT (.head _) B.isinstance (zb (pv 0))) (za (zaf CSX TSX CT (.tail _ (.head _)) B.isinstance (zb (pv 0))) (za (zaf CSX TSX CT (.tail _ (.tail _ (.head _))) B.isinstance (zb (pv 0))) (za (zaf CSX TSX CT (.tail _ (.tail _ (.tail _ (.head _)))) B.isinstance (zb (pv 0))) zc))))))))
 refine zg ?_ ?_
 ·exact (zF (zq (i:=1) zU.nd rfl (Or.inr rfl) (PE.nE (zcK zbs zbw (zb (pv 1)) (PE.sh (PE.nE (zaq (za (zaf CSX TSX CT (.tail _ (.tail _ (.tail _ (.tail _ (.head _))))) B.isinstance (zb (pv 0))) (za (zaf CSX TSX CT (.tail _ (.tail _ (.tail _ (.tail _ (.tail _ (.head _)))))) B.isinstance (zb (pv 0))) (za (zaf CSX TSX CT (.tail _ (.tail _ (.tail _ (.tail _ (.tail _ (.tail _ (.head _))))))) B.isinstance (zb (pv 0))) (za (zaf CSX TSX CT (.tail _ (.tail _ (.tail _ (.tail _ (.tail _ (.tail _ (.tail _ (.head _)))))))) B.isinstance (zb (pv 0))) zc)))))))))))
 refine zg ?_ ?_
 ·exact (zF (zq (i:=1) zU.nd rfl (Or.inr rfl) (PE.nE (zcK zbs zbw (zb (pv 1)) (PE.sh (PE.nE (zaq (za (zaf CSX TSX CT (.tail _ (.tail _ (.tail _ (.tail _ (.tail _ (.tail _ (.tail _ (.tail _ (.head _))))))))) B.isinstance (zb (pv 0))) (za (zaf CSX TSX CT (.tail _ (.tail _ (.tail _ (.tail _ (.tail _ (.tail _ (.tail _ (.tail _ (.tail _ (.head _)))))))))) B.isinstance (zb (pv 0))) (za (zaf CSX TSX CT (.tail _ (.tail _ (.tail _ (.tail _ (.tail _ (.tail _ (.tail _ (.tail _ (.tail _ (.tail _ (.head _))))))))))) B.isinstance (zb (pv 0))) (za (zaf CSX TSX CT (.tail _ (.tail _ (.tail _ (.tail _ (.tail _ (.tail _ (.tail _ (.tail _ (.tail _ (.tail _ (.tail _ (.head _)))))))))))) B.isinstance (zb (pv 0))) zc)))))))))))
 refine zg ?_ ?_
 ·exact (zF (zq (i:=1) zU.nd rfl (Or.inr rfl) (PE.nE (zcK zbs zbw (zb (pv 1)) (PE.sh (PE.nE (zaq (za (zaf CSX TSX CT (.tail _ (.tail _ (.tail _ (.tail _ (.tail _ (.tail _ (.tail _ (.tail _ (.tail _ (.tail _ (.tail _ (.tail _ (.head _))))))))))))) B.isinstance (zb (pv 0))) (za (zaf CSX TSX CT (.tail _ (.tail _ (.tail _ (.tail _ (.tail _ (.tail _ (.tail _ (.tail _ (.tail _ (.tail _ (.tail _ (.tail _ (.tail _ (.head _)))))))))))))) B.isinstance (zb (pv 0))) (za (zaf CSX TSX CT (.tail _ (.tail _ (.tail _ (.tail _ (.tail _ (.tail _ (.tail _ (.tail _ (.tail _ (.tail _ (.tail _ (.tail _ (.tail _ (.tail _ (.head _))))))))))))))) B.isinstance (zb (pv 0))) zc))))))))))
 refine zg ?_ ?_
 ·refine zF ?_
  refine zq ?_ ?_ ?_ ?_ ?_ ?_
  ·exact zU.nd
  ·rfl
  ·exact (Or.inr rfl)
  ·refine PE.nE ?_
   refine zaq ?_
   exact zdC rfl
  ·exact zir
  ·exact .inl rfl
 refine zg ?_ ?_
 ·exact (zF (zq (i:=2) zU.nd rfl (Or.inr rfl) (PE.nE (zcK zbs zbw (zb (pv 2)) (PE.sh (PE.nE (zaq (zdC (by rfl)))))))))
 refine zg ?_ ?_
 ·exact (zF (PS.nE (zhh (gd:=hxG y) (i:=3) (defScope zaj) ["_law_e","_law_named","_law_words","_law_some"] [2,1] ["_law_k","_law_words","_law_named"] ["_law_k"] (fun _ _ _ _ _ _=>hy) zU.nd rfl rfl own1 (zgh y 0 B.range (za (zd ze) zc)) (fun _ _ _ _ _ _=>(zm (zu (i:=0) (show (["_law_k","_law_words","_law_named"]:List Str).Nodup from by decide +kernel) rfl (Or.inl rfl)))) (fun _ _ _ _ _ _=>(zfI (zbk (PE.sh (zaR (zb (pv 2)) (zb (pv 0))))))) (fun _ _ _ _ _ _=>(zaR (zb (pv 1)) (zb (pv 0)))))))
 refine zg ?_ ?_
 ·exact (zbE (PW.pt (zfU (zJ (zmx hr) zjN (PE.sh (zw zA z0 rfl B.len zaJ (zh (zb (pv 3)) zo))) (PE.sh (zd ze)) (nomark _)) (zhT (zcH (zbk (PE.sh (zgL CSX B.isinstance (zb (pv 0)) (zff rfl zVE zmU (v:=.ty "ValueError") rfl) (fun _ r=>r) kVE))))))) (zl (za1 (zaW zaI))) za7)
 exact zl (za1 (zaR (zb (pv 3)) (PE.sh (zd ze))))
theorem zdG (F:Df K mg "_law_listed" zT ["_law_plan_here"]) (B:Bs mg) {cL:Addr} (mL:mg "LotError"=some (.ref cL)) (CE:ClEs K mg cL CSX) (DW_law_word:DnW P w K mg base 1 "_law_word" ["_law_e"] (fun y=>spD K 1 (zaO y))) (DR_rows_of:DnR P w K mg base 29 "rows_of" ["plan"] (spRN K mg 1 z7)):Dn P w K mg base 30 "_law_listed" ["_law_plan_here"] (spN K 1 zD):=
 zaY [1] za2 F zbh fun f cdv A outer s H E hr=>(zg (zmC (i:=2) (gs:=zck) (hand:=handOf CSX (fun c=>.list [.str c])) (fun pins0 E=>(zl (zjC (zq (i:=1) zbh.nd rfl (Or.inl rfl) (zgM DR_rows_of hr (by decide) zkx (za (zj (pv 0)) zc)))))) (fun a=>(zl (zcw (zaq (za (ziE (G:=zaO) (y:=a) DW_law_word (hr.markX _) (by decide) rfl (za (zj (pv 2)) zc)) zc))))) (fun c d h=>CE c (zgn h)) zdL mL zbh.nd)
  (zl (z8 (pv 1))))
theorem zlG {f:Addr} {fd:FuncData} (F:Fun K "law" "law" zbN f fd) (B:Bs mg) (D_law_cell:Dn P w K mg base 1 "_law_cell" ["_law_script","_law_k"] (spD K 2 zP)) (D_law_ends:Dn P w K mg base 1 "_law_ends" ["_law_plan_here"] (spN K 1 zag)) (D_law_listed:Dn P w K mg base 30 "_law_listed" ["_law_plan_here"] (spN K 1 zD)) (D_law_most:Dn P w K mg base 1 "_law_most" ["_law_cell_here"] (spD K 1 zbg)) (D_law_plan:Dn P w K mg base 2 "_law_plan" ["_law_cell_here","_law_most_here"] (spD K 2 zbb)) (D_law_rows:Dn P w K mg base 1 "_law_rows" ["_law_plan_here"] (spN K 1 zay)) (D_law_ways:Dn P w K mg base 1 "_law_ways" ["_law_plan_here"] (spD K 1 zar)):FnOk P w K mg base CX0 31 f fd ["_law_script"] (spD K 1 zgC):=
 zmS [5] zkA F zci fun f cdv A outer s H E hr=>let hu:=Nat.lt_of_le_of_lt (Nat.add_le_add_left (show 1<=64 by decide) _) hr.units
  (zg (zF (zq (i:=1) zci.nd rfl (Or.inl rfl) (zaA D_law_most hr (by decide) (za (zaA D_law_cell hr (by decide) (za (zj (pv 0)) (za (zd ze) zc))) zc))))
  (zg (zbE (zJ (zek hr) zea (PE.sh (zr zaB zK (PE.sh (zr zby zK (PE.sh (zaA D_law_cell hr (by decide) (za (zj (pv 0)) (za (zd ze) zc)))) (PE.sh (zd ze)))) (PE.sh (zd ze)))) (PE.sh (zd ze)) (nomark _)) (zl (zF (zq (i:=1) zci.nd rfl (Or.inl rfl) (zd ze)))) za7)
  (zg (zF (zq (i:=2) zci.nd rfl (Or.inl rfl) (zaA D_law_plan hr (by decide) (za (zaA D_law_cell hr (by decide) (za (zj (pv 0)) (za (zd ze) zc))) (za (zj (pv 1)) zc)))))
  (zg (zF (zq (i:=3) zci.nd rfl (Or.inr rfl) (zaA D_law_ways hr (by decide) (za (zj (pv 2)) zc))))
  (zg (zbE (zJ zeh zaV (PE.sh (zw (zee rfl) zgI rfl B.sum zkb (zh (PE.sh (PE.nE (PE.asC (zaD (defScope zbN) ["_law_script","_law_most_here","_law_plan_here","_law_ways_here","_law_due","_law_found","_law_k"] [3] ["_law_end","_law_ways_here"] ["_law_end"] own1 (PI.c (zan (PE.nE (zR D_law_ends hr (by decide) (za (zj (pv 2)) zc))))) (fun _ _ _ _ _ _=>(zm (zu (i:=0) (show (["_law_end","_law_ways_here"]:List Str).Nodup from by decide +kernel) rfl (Or.inl rfl)))) (fun _ _ _ _ _ _=>zbl) (fun _ _ _ _ _ _=>(zfp hu (zb (pv 1)) (zb (pv 0)))))))) zo))) (PE.sh (zd ze)) (nomark _)) (zl (za1 (zfC (zek hr) zea (PE.sh (PE.nE (zR D_law_listed hr (by decide) (za (zj (pv 2)) zc)))) (PE.sh (PE.nE (zaq (za (zaW zaI) zc)))) (nomark _)))) za7)
  (zg (zF (PS.nE (zfE (i:=4) (defScope zbN) ["_law_script","_law_most_here","_law_plan_here","_law_ways_here","_law_due","_law_found","_law_k"] [] ["_law_row","_law_end"] ["_law_row","_law_end"] zci.nd rfl rfl own2 (PI.c (zan (PE.nE (zR D_law_rows hr (by decide) (za (zj (pv 2)) zc))))) (fun _ _ _ _ _ _=>(zcE rfl (zaC (zm (zu (i:=0) (show (["_law_row","_law_end"]:List Str).Nodup from by decide +kernel) rfl (Or.inl rfl))) (zaC (zm (zu (i:=1) (show (["_law_row","_law_end"]:List Str).Nodup from by decide +kernel) rfl (Or.inl rfl))) zcL)))) (fun _ _ _ _ _ _=>zbl) (fun _ _ _ _ _ _=>(zj (pv 0))))))
  (zg (za8 (zq (i:=5) zci.nd rfl (Or.inl rfl) (zR D_law_listed hr (by decide) (za (zj (pv 2)) zc))))
  (zg (zbE (PW.pt (zfU (zcH (zbk (PE.sh (zj4 "list" B.isinstance (zb (pv 5)) (zff rfl B.list zeP (v:=.ty "list") rfl))))) (zfU (zJ (zmh hr) zjN (zb (pv 5)) (zb (pv 4)) (nomark _)) (zhT (zcH (zbk (PE.sh (zw (zhb rfl) zkH rfl B.all zlv (zh (PE.sh (PE.nE (PE.asC (zaD (defScope zbN) ["_law_script","_law_most_here","_law_plan_here","_law_ways_here","_law_due","_law_found","_law_k"] [] ["_law_row"] ["_law_row"] own1 (zkR (zb (pv 5))) (fun _ _ _ _ _ _=>(zm (zu (i:=0) (show (["_law_row"]:List Str).Nodup from by decide +kernel) rfl (Or.inl rfl)))) (fun _ _ _ _ _ _=>zbl) (fun _ _ _ _ _ _=>(zj4 "str" B.isinstance (zb (pv 0)) (zff rfl B.str zmr (v:=.ty "str") rfl))))))) zo))))))))) (zl (za1 (zmo zmB))) za7)
  (zg (zbu PassesOwn.never rfl (zct B.range (za (zr zbq zcz (PE.sh (zw zA z0 rfl B.len zaJ (zh (zb (pv 5)) zo))) (PE.sh (zd ze))) zc)) (zm (zu (i:=6) zci.nd rfl (Or.inl rfl)))
   (zl (zbE (PW.pt (zfU (zJ zlj zkM (PE.sh (zaR (zb (pv 5)) (zb (pv 6)))) (PE.sh (zaR (zb (pv 5)) (PE.sh (zr zy zp (zb (pv 6)) (PE.sh (zd ze)))))) (nomark _)) (zhT (zbk (PE.sh (zg9 (PE.sh (zaR (zb (pv 5)) (PE.sh (zr zy zp (zb (pv 6)) (PE.sh (zd ze)))))) (PE.sh (zaR (zb (pv 5)) (zb (pv 6)))))))))) (zl (za1 (zmo zmB))) za7)))
  (zg (ziH (za0 (zjM PySem.F.plainAttrs_list PySem.F.slot_list_clear PySem.F.type_list_clear zjq (pv 5))))
  (zl (za1 (zfC (zek hr) zea (PE.sh (PE.nE (zR D_law_listed hr (by decide) (za (zj (pv 2)) zc)))) (zb (pv 4)) (nomark _))))))))))))))
end
end MyLaw
namespace MyLaw
open PySem L2 Q1
structure QF (K:PySem.W.Frag) (n:Str) (st:Stmt) (f:Addr) (od an:Option Addr) (sl:Array (Option Value)) (oc kV dc pm cd ct:Value):Prop where
 a:PySem.W.nsIn K mainGlobals n=some (some (.ref f))
 l:K.lookup f=some ⟨oc,od,.func (PySem.W.fnOf n n (defArgs st) (defBody st) (defScope st) .none kV dc pm an cd ct),sl⟩
 c:PySem.W.codeIn K cd n=true
 k:PySem.W.keepIn K (.ref f)=true
theorem zkV {us:List Value} {n:Nat} (h:us.length=n + 1):∃ a r,us=a :: r /\ r.length=n:=by cases us with | nil=>cases h | cons a r=>exact ⟨a,r,rfl,Nat.succ.inj h⟩
theorem zb0 (us:List Value) (h:us.length=1):∃ a0,us=[a0]:=by obtain ⟨a,r,rfl,g⟩:=zkV h; rw [List.length_eq_zero_iff.mp g]; exact ⟨a,rfl⟩
theorem zgy (us:List Value) (h:us.length=2):∃ a0 a1,us=[a0,a1]:=by obtain ⟨a,r,rfl,g⟩:=zkV h; obtain ⟨a0,rfl⟩:=zb0 r g; exact ⟨a,a0,rfl⟩
theorem zkj (us:List Value) (h:us.length=3):∃ a0 a1 a2,us=[a0,a1,a2]:=by obtain ⟨a,r,rfl,g⟩:=zkV h; obtain ⟨a0,a1,rfl⟩:=zgy r g; exact ⟨a,a0,a1,rfl⟩
section
variable {K:PySem.W.Frag} {mg:Str->Option Value} {f:Addr} {fd:FuncData}
theorem zga (F:Fun K "goes_on" "goes_on" zaT f fd) (m:mg "goes_on"=some (.ref f)):Df K mg "goes_on" zaT ["plan","count"]:=⟨f,fd,F,m,F.binds fun _ _ _ _ _ _ us hl=>by obtain ⟨a0,a1,rfl⟩:=zgy us hl; rfl⟩
theorem zge (F:Fun K "come_to" "come_to" zaF f fd) (m:mg "come_to"=some (.ref f)):Df K mg "come_to" zaF ["plan"]:=⟨f,fd,F,m,F.binds fun _ _ _ _ _ _ us hl=>by obtain ⟨a0,rfl⟩:=zb0 us hl; rfl⟩
theorem zlg (F:Fun K "ends" "ends" zch f fd) (m:mg "ends"=some (.ref f)):Df K mg "ends" zch ["plan"]:=⟨f,fd,F,m,F.binds fun _ _ _ _ _ _ us hl=>by obtain ⟨a0,rfl⟩:=zb0 us hl; rfl⟩
theorem zeO (F:Fun K "drawn_on" "drawn_on" zah f fd) (m:mg "drawn_on"=some (.ref f)):Df K mg "drawn_on" zah ["plan"]:=⟨f,fd,F,m,F.binds fun _ _ _ _ _ _ us hl=>by obtain ⟨a0,rfl⟩:=zb0 us hl; rfl⟩
theorem zhJ (F:Fun K "led_to" "led_to" za3 f fd) (m:mg "led_to"=some (.ref f)):Df K mg "led_to" za3 ["place"]:=⟨f,fd,F,m,F.binds fun _ _ _ _ _ _ us hl=>by obtain ⟨a0,rfl⟩:=zb0 us hl; rfl⟩
theorem zjh (F:Fun K "after" "after" zbC f fd) (m:mg "after"=some (.ref f)):Df K mg "after" zbC ["count","sign"]:=⟨f,fd,F,m,F.binds fun _ _ _ _ _ _ us hl=>by obtain ⟨a0,a1,rfl⟩:=zgy us hl; rfl⟩
theorem zer (F:Fun K "ways_from" "ways_from" zad f fd) (m:mg "ways_from"=some (.ref f)):Df K mg "ways_from" zad ["plan","beginning"]:=⟨f,fd,F,m,F.binds fun _ _ _ _ _ _ us hl=>by obtain ⟨a0,a1,rfl⟩:=zgy us hl; rfl⟩
theorem zgk (F:Fun K "rows_of" "rows_of" zaG f fd) (m:mg "rows_of"=some (.ref f)):Df K mg "rows_of" zaG ["plan"]:=⟨f,fd,F,m,F.binds fun _ _ _ _ _ _ us hl=>by obtain ⟨a0,rfl⟩:=zb0 us hl; rfl⟩
theorem zc0 (F:Fun K "rows_behind" "rows_behind" zM f fd) (m:mg "rows_behind"=some (.ref f)):Df K mg "rows_behind" zM ["plan","row","count"]:=⟨f,fd,F,m,F.binds fun _ _ _ _ _ _ us hl=>by obtain ⟨a0,a1,a2,rfl⟩:=zkj us hl; rfl⟩
theorem zeW (F:Fun K "_law_cell" "_law_cell" zau f fd) (m:mg "_law_cell"=some (.ref f)):Df K mg "_law_cell" zau ["_law_script","_law_k"]:=⟨f,fd,F,m,F.binds fun _ _ _ _ _ _ us hl=>by obtain ⟨a0,a1,rfl⟩:=zgy us hl; rfl⟩
theorem zdr (F:Fun K "_law_digits" "_law_digits" zV f fd) (m:mg "_law_digits"=some (.ref f)):Df K mg "_law_digits" zV ["_law_cell_here","_law_base","_law_many"]:=⟨f,fd,F,m,F.binds fun _ _ _ _ _ _ us hl=>by obtain ⟨a0,a1,a2,rfl⟩:=zkj us hl; rfl⟩
theorem zd0 (F:Fun K "_law_mixes" "_law_mixes" zab f fd) (m:mg "_law_mixes"=some (.ref f)):Df K mg "_law_mixes" zab ["_law_cell_here","_law_base","_law_many"]:=⟨f,fd,F,m,F.binds fun _ _ _ _ _ _ us hl=>by obtain ⟨a0,a1,a2,rfl⟩:=zkj us hl; rfl⟩
theorem zeT (F:Fun K "_law_plan" "_law_plan" zW f fd) (m:mg "_law_plan"=some (.ref f)):Df K mg "_law_plan" zW ["_law_cell_here","_law_most_here"]:=⟨f,fd,F,m,F.binds fun _ _ _ _ _ _ us hl=>by obtain ⟨a0,a1,rfl⟩:=zgy us hl; rfl⟩
theorem ze9 (F:Fun K "_law_most" "_law_most" zat f fd) (m:mg "_law_most"=some (.ref f)):Df K mg "_law_most" zat ["_law_cell_here"]:=⟨f,fd,F,m,F.binds fun _ _ _ _ _ _ us hl=>by obtain ⟨a0,rfl⟩:=zb0 us hl; rfl⟩
theorem ze7 (F:Fun K "_law_rows" "_law_rows" zax f fd) (m:mg "_law_rows"=some (.ref f)):Df K mg "_law_rows" zax ["_law_plan_here"]:=⟨f,fd,F,m,F.binds fun _ _ _ _ _ _ us hl=>by obtain ⟨a0,rfl⟩:=zb0 us hl; rfl⟩
theorem zeN (F:Fun K "_law_ways" "_law_ways" zaz f fd) (m:mg "_law_ways"=some (.ref f)):Df K mg "_law_ways" zaz ["_law_plan_here"]:=⟨f,fd,F,m,F.binds fun _ _ _ _ _ _ us hl=>by obtain ⟨a0,rfl⟩:=zb0 us hl; rfl⟩
theorem zfd (F:Fun K "_law_ends" "_law_ends" zX f fd) (m:mg "_law_ends"=some (.ref f)):Df K mg "_law_ends" zX ["_law_plan_here"]:=⟨f,fd,F,m,F.binds fun _ _ _ _ _ _ us hl=>by obtain ⟨a0,rfl⟩:=zb0 us hl; rfl⟩
theorem zfj (F:Fun K "_law_word" "_law_word" zaj f fd) (m:mg "_law_word"=some (.ref f)):Df K mg "_law_word" zaj ["_law_e"]:=⟨f,fd,F,m,F.binds fun _ _ _ _ _ _ us hl=>by obtain ⟨a0,rfl⟩:=zb0 us hl; rfl⟩
theorem zdv (F:Fun K "_law_listed" "_law_listed" zT f fd) (m:mg "_law_listed"=some (.ref f)):Df K mg "_law_listed" zT ["_law_plan_here"]:=⟨f,fd,F,m,F.binds fun _ _ _ _ _ _ us hl=>by obtain ⟨a0,rfl⟩:=zb0 us hl; rfl⟩
theorem zmn (F:Fun K "law" "law" zbN f fd) (m:mg "law"=some (.ref f)):Df K mg "law" zbN ["_law_script"]:=⟨f,fd,F,m,F.binds fun _ _ _ _ _ _ us hl=>by obtain ⟨a0,rfl⟩:=zb0 us hl; rfl⟩
end
theorem zmz {l:PySem.W.OpenLaw} {w:World} {K:PySem.W.Frag} {h:Heap} {mg:Str->Option Value} {fa:Addr} (X:K.In h) (G:h.Ns mainGlobals mg) (hfa:mg "law"=some (.ref fa))
  {f1 f2 f3 f4 f5 f6 f7 f8 f9 f10 f11 f12 f13 f14 f15 f16 f17 f18 f19 f20:Addr} {od1 an1 od2 an2 od3 an3 od4 an4 od5 an5 od6 an6 od7 an7 od8 an8 od9 an9 od10 an10 od11 an11 od12 an12 od13 an13 od14 an14 od15 an15 od16 an16 od17 an17 od18 an18 od19 an19 od20 an20:Option Addr} {sl1 sl2 sl3 sl4 sl5 sl6 sl7 sl8 sl9 sl10 sl11 sl12 sl13 sl14 sl15 sl16 sl17 sl18 sl19 sl20:Array (Option Value)} {oc1 kV1 dc1 pm1 cd1 ct1 oc2 kV2 dc2 pm2 cd2 ct2 oc3 kV3 dc3 pm3 cd3 ct3 oc4 kV4 dc4 pm4 cd4 ct4 oc5 kV5 dc5 pm5 cd5 ct5 oc6 kV6 dc6 pm6 cd6 ct6 oc7 kV7 dc7 pm7 cd7 ct7 oc8 kV8 dc8 pm8 cd8 ct8 oc9 kV9 dc9 pm9 cd9 ct9 oc10 kV10 dc10 pm10 cd10 ct10 oc11 kV11 dc11 pm11 cd11 ct11 oc12 kV12 dc12 pm12 cd12 ct12 oc13 kV13 dc13 pm13 cd13 ct13 oc14 kV14 dc14 pm14 cd14 ct14 oc15 kV15 dc15 pm15 cd15 ct15 oc16 kV16 dc16 pm16 cd16 ct16 oc17 kV17 dc17 pm17 cd17 ct17 oc18 kV18 dc18 pm18 cd18 ct18 oc19 kV19 dc19 pm19 cd19 ct19 oc20 kV20 dc20 pm20 cd20 ct20:Value}
  (q1:QF K "goes_on" zaT f1 od1 an1 sl1 oc1 kV1 dc1 pm1 cd1 ct1)
  (q2:QF K "come_to" zaF f2 od2 an2 sl2 oc2 kV2 dc2 pm2 cd2 ct2)
  (q3:QF K "ends" zch f3 od3 an3 sl3 oc3 kV3 dc3 pm3 cd3 ct3)
  (q4:QF K "drawn_on" zah f4 od4 an4 sl4 oc4 kV4 dc4 pm4 cd4 ct4)
  (q5:QF K "led_to" za3 f5 od5 an5 sl5 oc5 kV5 dc5 pm5 cd5 ct5)
  (q6:QF K "after" zbC f6 od6 an6 sl6 oc6 kV6 dc6 pm6 cd6 ct6)
  (q7:QF K "ways_from" zad f7 od7 an7 sl7 oc7 kV7 dc7 pm7 cd7 ct7)
  (q8:QF K "rows_of" zaG f8 od8 an8 sl8 oc8 kV8 dc8 pm8 cd8 ct8)
  (q9:QF K "rows_behind" zM f9 od9 an9 sl9 oc9 kV9 dc9 pm9 cd9 ct9)
  (q10:QF K "_law_cell" zau f10 od10 an10 sl10 oc10 kV10 dc10 pm10 cd10 ct10)
  (q11:QF K "_law_digits" zV f11 od11 an11 sl11 oc11 kV11 dc11 pm11 cd11 ct11)
  (q12:QF K "_law_mixes" zab f12 od12 an12 sl12 oc12 kV12 dc12 pm12 cd12 ct12)
  (q13:QF K "_law_plan" zW f13 od13 an13 sl13 oc13 kV13 dc13 pm13 cd13 ct13)
  (q14:QF K "_law_most" zat f14 od14 an14 sl14 oc14 kV14 dc14 pm14 cd14 ct14)
  (q15:QF K "_law_rows" zax f15 od15 an15 sl15 oc15 kV15 dc15 pm15 cd15 ct15)
  (q16:QF K "_law_ways" zaz f16 od16 an16 sl16 oc16 kV16 dc16 pm16 cd16 ct16)
  (q17:QF K "_law_ends" zX f17 od17 an17 sl17 oc17 kV17 dc17 pm17 cd17 ct17)
  (q18:QF K "_law_word" zaj f18 od18 an18 sl18 oc18 kV18 dc18 pm18 cd18 ct18)
  (q19:QF K "_law_listed" zT f19 od19 an19 sl19 oc19 kV19 dc19 pm19 cd19 ct19)
  (q20:QF K "law" zbN f20 od20 an20 sl20 oc20 kV20 dc20 pm20 cd20 ct20)
  {tMOST_ROWS:Tok} (aMOST_ROWS:PySem.W.nsIn K mainGlobals "MOST_ROWS"=some (some (.int 4000 tMOST_ROWS)))
  (z_len:PySem.W.nsIn K mainGlobals "len"=some none)
  (z_range:PySem.W.nsIn K mainGlobals "range"=some none)
  (z_isinstance:PySem.W.nsIn K mainGlobals "isinstance"=some none)
  (z_max:PySem.W.nsIn K mainGlobals "max"=some none)
  (z_min:PySem.W.nsIn K mainGlobals "min"=some none)
  (z_int:PySem.W.nsIn K mainGlobals "int"=some none)
  (z_bool:PySem.W.nsIn K mainGlobals "bool"=some none)
  (z_tuple:PySem.W.nsIn K mainGlobals "tuple"=some none)
  (z_list:PySem.W.nsIn K mainGlobals "list"=some none)
  (z_abs:PySem.W.nsIn K mainGlobals "abs"=some none)
  (z_str:PySem.W.nsIn K mainGlobals "str"=some none)
  (z_sum:PySem.W.nsIn K mainGlobals "sum"=some none)
  (z_sorted:PySem.W.nsIn K mainGlobals "sorted"=some none)
  (z_reversed:PySem.W.nsIn K mainGlobals "reversed"=some none)
  (z_enumerate:PySem.W.nsIn K mainGlobals "enumerate"=some none)
  (z_set:PySem.W.nsIn K mainGlobals "set"=some none)
  (z_all:PySem.W.nsIn K mainGlobals "all"=some none)
  (z_zip:PySem.W.nsIn K mainGlobals "zip"=some none)
  (z_any:PySem.W.nsIn K mainGlobals "any"=some none)
  (ct:cstTab=[])
  {cTooMany:Addr} (aTooMany:PySem.W.nsIn K mainGlobals "TooMany"=some (some (.ref cTooMany)))
  (qxTooMany:PySem.W.excIn (offC K) cTooMany VE "ValueError.__new__"=true)
  {cL:Addr} (aL:PySem.W.nsIn K mainGlobals "LotError"=some (some (.ref cL)))
  (zE:PySem.W.nsIn K mainGlobals "ValueError"=some none)
  (qc:clsB (offC K) cL CSX TSX=true)
  :CstOk K /\ ∃ fd:FuncData,(∀ (s:Shared) (v:Value),BindsTo s fd ⟨[v],[]⟩ [("_law_script",v)]) /\ ∀ base:Heap,(offC K).In base->base.Ns mainGlobals mg->FnOk l.prog w (offC K) mg base CX0 31 fa fd ["_law_script"] (spD (offC K) 1 zgC):=by
 have e:=hfa.symm.trans (PySem.W.mg_of X G q20.a)
 cases e
 have C:CstOk K:=⟨(fun p xs m=>by rw [ct] at m; cases m),(fun p xs m=>by rw [ct] at m; cases m)⟩
 have d_goes_on:Df (offC K) mg "goes_on" zaT ["plan","count"]:=zga (C.func (z9 (st:=zaT) q1.l q1.c q1.k)) (PySem.W.mg_of X G q1.a)
 have d_come_to:Df (offC K) mg "come_to" zaF ["plan"]:=zge (C.func (z9 (st:=zaF) q2.l q2.c q2.k)) (PySem.W.mg_of X G q2.a)
 have d_ends:Df (offC K) mg "ends" zch ["plan"]:=zlg (C.func (z9 (st:=zch) q3.l q3.c q3.k)) (PySem.W.mg_of X G q3.a)
 have d_drawn_on:Df (offC K) mg "drawn_on" zah ["plan"]:=zeO (C.func (z9 (st:=zah) q4.l q4.c q4.k)) (PySem.W.mg_of X G q4.a)
 have d_led_to:Df (offC K) mg "led_to" za3 ["place"]:=zhJ (C.func (z9 (st:=za3) q5.l q5.c q5.k)) (PySem.W.mg_of X G q5.a)
 have d_after:Df (offC K) mg "after" zbC ["count","sign"]:=zjh (C.func (z9 (st:=zbC) q6.l q6.c q6.k)) (PySem.W.mg_of X G q6.a)
 have d_ways_from:Df (offC K) mg "ways_from" zad ["plan","beginning"]:=zer (C.func (z9 (st:=zad) q7.l q7.c q7.k)) (PySem.W.mg_of X G q7.a)
 have d_rows_of:Df (offC K) mg "rows_of" zaG ["plan"]:=zgk (C.func (z9 (st:=zaG) q8.l q8.c q8.k)) (PySem.W.mg_of X G q8.a)
 have d_rows_behind:Df (offC K) mg "rows_behind" zM ["plan","row","count"]:=zc0 (C.func (z9 (st:=zM) q9.l q9.c q9.k)) (PySem.W.mg_of X G q9.a)
 have d_law_cell:Df (offC K) mg "_law_cell" zau ["_law_script","_law_k"]:=zeW (C.func (z9 (st:=zau) q10.l q10.c q10.k)) (PySem.W.mg_of X G q10.a)
 have d_law_digits:Df (offC K) mg "_law_digits" zV ["_law_cell_here","_law_base","_law_many"]:=zdr (C.func (z9 (st:=zV) q11.l q11.c q11.k)) (PySem.W.mg_of X G q11.a)
 have d_law_mixes:Df (offC K) mg "_law_mixes" zab ["_law_cell_here","_law_base","_law_many"]:=zd0 (C.func (z9 (st:=zab) q12.l q12.c q12.k)) (PySem.W.mg_of X G q12.a)
 have d_law_plan:Df (offC K) mg "_law_plan" zW ["_law_cell_here","_law_most_here"]:=zeT (C.func (z9 (st:=zW) q13.l q13.c q13.k)) (PySem.W.mg_of X G q13.a)
 have d_law_most:Df (offC K) mg "_law_most" zat ["_law_cell_here"]:=ze9 (C.func (z9 (st:=zat) q14.l q14.c q14.k)) (PySem.W.mg_of X G q14.a)
 have d_law_rows:Df (offC K) mg "_law_rows" zax ["_law_plan_here"]:=ze7 (C.func (z9 (st:=zax) q15.l q15.c q15.k)) (PySem.W.mg_of X G q15.a)
 have d_law_ways:Df (offC K) mg "_law_ways" zaz ["_law_plan_here"]:=zeN (C.func (z9 (st:=zaz) q16.l q16.c q16.k)) (PySem.W.mg_of X G q16.a)
 have d_law_ends:Df (offC K) mg "_law_ends" zX ["_law_plan_here"]:=zfd (C.func (z9 (st:=zX) q17.l q17.c q17.k)) (PySem.W.mg_of X G q17.a)
 have d_law_word:Df (offC K) mg "_law_word" zaj ["_law_e"]:=zfj (C.func (z9 (st:=zaj) q18.l q18.c q18.k)) (PySem.W.mg_of X G q18.a)
 have d_law_listed:Df (offC K) mg "_law_listed" zT ["_law_plan_here"]:=zdv (C.func (z9 (st:=zT) q19.l q19.c q19.k)) (PySem.W.mg_of X G q19.a)
 have d_law:Df (offC K) mg "law" zbN ["_law_script"]:=zmn (C.func (z9 (st:=zbN) q20.l q20.c q20.k)) (PySem.W.mg_of X G q20.a)
 have C_MOST_ROWS:Cn mg "MOST_ROWS" (.int 4000):=⟨_,PySem.W.mg_of X G aMOST_ROWS,⟨_,rfl⟩⟩
 have B:Bs mg:=⟨PySem.W.mg_none_of X G z_len,PySem.W.mg_none_of X G z_range,PySem.W.mg_none_of X G z_isinstance,PySem.W.mg_none_of X G z_max,PySem.W.mg_none_of X G z_min,PySem.W.mg_none_of X G z_int,PySem.W.mg_none_of X G z_bool,PySem.W.mg_none_of X G z_tuple,PySem.W.mg_none_of X G z_list,PySem.W.mg_none_of X G z_abs,PySem.W.mg_none_of X G z_str,PySem.W.mg_none_of X G z_sum,PySem.W.mg_none_of X G z_sorted,PySem.W.mg_none_of X G z_reversed,PySem.W.mg_none_of X G z_enumerate,PySem.W.mg_none_of X G z_set,PySem.W.mg_none_of X G z_all,PySem.W.mg_none_of X G z_zip,PySem.W.mg_none_of X G z_any⟩
 have X_TooMany:∃ C tl,ExC (offC K) mg "TooMany" C VE tl "ValueError.__new__":=⟨_,zl3 (PySem.W.mg_of X G aTooMany) qxTooMany⟩
 have mL:=PySem.W.mg_of X G aL
 have zVE:=PySem.W.mg_none_of X G zE
 have CT:=zkm (zhU X) G qc
 have kVE:=zle qc
 have CE:=zld (zhU X) G qc
 refine ⟨C,PySem.W.fnOf "law" "law" (defArgs zbN) (defBody zbN) (defScope zbN) .none kV20 dc20 pm20 an20 cd20 ct20,fun s v=>.of_eq rfl,fun base _ _=>?_⟩
 have D_goes_on:=zgw (P:=l.prog) (w:=w) (base:=base) d_goes_on B
 have D_led_to:=zhx (P:=l.prog) (w:=w) (base:=base) d_led_to B
 have D_come_to:=zgz (P:=l.prog) (w:=w) (base:=base) d_come_to B D_led_to
 have D_ends:=zkW (P:=l.prog) (w:=w) (base:=base) d_ends B D_come_to D_goes_on
 have D_drawn_on:=ze2 (P:=l.prog) (w:=w) (base:=base) d_drawn_on B
 have D_after:=zjL (P:=l.prog) (w:=w) (base:=base) d_after B
 have D_ways_from:=zd6 (P:=l.prog) (w:=w) (base:=base) d_ways_from B D_after D_drawn_on
 have D_rows_behind:=zc2 (P:=l.prog) (w:=w) (base:=base) d_rows_behind B D_after D_goes_on
 have DR_rows_of:=zfl (P:=l.prog) (w:=w) (base:=base) d_rows_of B C_MOST_ROWS X_TooMany D_ends D_rows_behind D_ways_from
 have D_law_cell:=zeY (P:=l.prog) (w:=w) (base:=base) d_law_cell B
 have D_law_digits:=zdI (P:=l.prog) (w:=w) (base:=base) d_law_digits B
 have D_law_mixes:=zeF (P:=l.prog) (w:=w) (base:=base) d_law_mixes B
 have D_law_plan:=zfr (P:=l.prog) (w:=w) (base:=base) d_law_plan B D_law_digits D_law_mixes
 have D_law_most:=zeL (P:=l.prog) (w:=w) (base:=base) d_law_most B
 have D_law_rows:=zeS (P:=l.prog) (w:=w) (base:=base) d_law_rows B
 have D_law_ways:=ze1 (P:=l.prog) (w:=w) (base:=base) d_law_ways B
 have D_law_ends:=zfq (P:=l.prog) (w:=w) (base:=base) d_law_ends B
 have DW_law_word:=zem (P:=l.prog) (w:=w) (base:=base) d_law_word B CT zVE kVE
 have D_law_listed:=zdG (P:=l.prog) (w:=w) (base:=base) d_law_listed B mL CE DW_law_word DR_rows_of
 exact zlG (P:=l.prog) (w:=w) (base:=base) (C.func (z9 (st:=zbN) q20.l q20.c q20.k)) B D_law_cell D_law_ends D_law_listed D_law_most D_law_plan D_law_rows D_law_ways
theorem walk {l:PySem.W.OpenLaw} {q:Program} {loose:List Str} {XP:(Str->Option Value)->Heap->Prop} {YP:World->Heap->Prop} {d:DefRec} {K:Params->PySem.W.Frag} (hn:l.most=some 63) (hdf:d.params.defaults=[])
  (hY:∀ (w:World) (h:Heap),YP w h->(K w.params).In h)
  (F:∀ (w:World) (mg:Str->Option Value) (fa:Addr) (h:Heap),(K w.params).In h->h.Ns mainGlobals mg->mg d.name=some (.ref fa)->
   CstOk (K w.params) /\ ∃ fd:FuncData,(∀ (s:Shared) (u:Value),BindsTo s fd ⟨[u],[]⟩ [("_law_script",u)]) /\ ∀ base:Heap,(offC (K w.params)).In base->base.Ns mainGlobals mg->FnOk l.prog w (offC (K w.params)) mg base CX0 31 fa fd ["_law_script"] (spD (offC (K w.params)) 1 zgC)):
  PySem.W.WalkO q loose XP YP l.row.toRowW d [] (fun f vs=>PySem.call f vs):=
 L2.zjm (n:=63) (k:=31) (x:="_law_script") (CX:=fun _=>CX0) (sp:=fun w=>spD (offC (K w.params)) 1 zgC) hn (by decide) hdf ⟨rfl,by decide,by decide⟩ hY F (fun _ _ a ns hl hS hT=>⟨rfl,[],[.list (ns.map PyData.int)],.bool true,⟨fun _ z=>by simp at z,hT⟩,by rw [zj2]; exact .cons (.lst hS (HDs.ints ns)) .nil,zjx ns hl,fun v H' _ h=>by cases h; rfl⟩) fun _ _ _ _ _ z=>z
end MyLaw
open PySem PySem.W PyProof.Rows
set_option tactic.hygienic true
set_option maxRecDepth 100000 in
set_option maxHeartbeats 0 in
theorem PySem.Challenge.cw_lotdraw_k23_rows_listed_holds : PySem.Challenge.rw_lotdraw_k23_rows_listed.Holds := by
 w_on; o_law
 refine PySem.W.holds_open (q:=MyLaw.viewP) (loose:=[]) (Xt:=MyLaw.hpX) (XP:=XL MyLaw.viewP []) (Yf:=Hook.obs (kHook MyLaw.hpK MyLaw.hpA MyLaw.zkC)) (Ya:=Hook.val (kHook MyLaw.hpK MyLaw.hpA MyLaw.zkC)) (YP:=Hook.says (kHook MyLaw.hpK MyLaw.hpA MyLaw.zkC)) (N:=8168) (Hd.zib ?h1 rfl (fun _=>rfl) MyLaw.zky MyLaw.zk7) (Hook.of _) (Hook.keeps _) (fun s e=>xl_of s (Bool.and_eq_true_iff.mp e).1) XL.keeps (by rfl) (by rfl) (by rfl) (fun s e=>recFacts_of (Bool.and_eq_true_iff.mp e).2) rfl (by first | assumption | decide +kernel) (by decide +kernel) ⟨rfl,rfl,rfl,rfl,rfl,by decide +kernel⟩ ?hw ?hc
 case h1=>kernel_rfl
 case hw=>w_witness2
 k_fill
 refine MyLaw.walk (l:=PySem.Challenge.rw_lotdraw_k23_rows_listed) rfl rfl (fun w h Y=>PySem.W.kIn_of Y) ?F
 case F=>
  intro w mg fa h KX G hmg
  refine' MyLaw.zmz KX G hmg ?q1 ?q2 ?q3 ?q4 ?q5 ?q6 ?q7 ?q8 ?q9 ?q10 ?q11 ?q12 ?q13 ?q14 ?q15 ?q16 ?q17 ?q18 ?q19 ?q20 ?aMOST_ROWS ?z_len ?z_range ?z_isinstance ?z_max ?z_min ?z_int ?z_bool ?z_tuple ?z_list ?z_abs ?z_str ?z_sum ?z_sorted ?z_reversed ?z_enumerate ?z_set ?z_all ?z_zip ?z_any ?ct ?aTooMany ?qxTooMany ?aL ?zE ?qc
  (case q1=>refine' ⟨?x,?y,?z,?t⟩; (case x=>k_is); (case y=>k_is); (case z=>k_is); (case t=>k_is))
  (case q2=>refine' ⟨?x,?y,?z,?t⟩; (case x=>k_is); (case y=>k_is); (case z=>k_is); (case t=>k_is))
  (case q3=>refine' ⟨?x,?y,?z,?t⟩; (case x=>k_is); (case y=>k_is); (case z=>k_is); (case t=>k_is))
  (case q4=>refine' ⟨?x,?y,?z,?t⟩; (case x=>k_is); (case y=>k_is); (case z=>k_is); (case t=>k_is))
  (case q5=>refine' ⟨?x,?y,?z,?t⟩; (case x=>k_is); (case y=>k_is); (case z=>k_is); (case t=>k_is))
  (case q6=>refine' ⟨?x,?y,?z,?t⟩; (case x=>k_is); (case y=>k_is); (case z=>k_is); (case t=>k_is))
  (case q7=>refine' ⟨?x,?y,?z,?t⟩; (case x=>k_is); (case y=>k_is); (case z=>k_is); (case t=>k_is))
  (case q8=>refine' ⟨?x,?y,?z,?t⟩; (case x=>k_is); (case y=>k_is); (case z=>k_is); (case t=>k_is))
  (case q9=>refine' ⟨?x,?y,?z,?t⟩; (case x=>k_is); (case y=>k_is); (case z=>k_is); (case t=>k_is))
  (case q10=>refine' ⟨?x,?y,?z,?t⟩; (case x=>k_is); (case y=>k_is); (case z=>k_is); (case t=>k_is))
  (case q11=>refine' ⟨?x,?y,?z,?t⟩; (case x=>k_is); (case y=>k_is); (case z=>k_is); (case t=>k_is))
  (case q12=>refine' ⟨?x,?y,?z,?t⟩; (case x=>k_is); (case y=>k_is); (case z=>k_is); (case t=>k_is))
  (case q13=>refine' ⟨?x,?y,?z,?t⟩; (case x=>k_is); (case y=>k_is); (case z=>k_is); (case t=>k_is))
  (case q14=>refine' ⟨?x,?y,?z,?t⟩; (case x=>k_is); (case y=>k_is); (case z=>k_is); (case t=>k_is))
  (case q15=>refine' ⟨?x,?y,?z,?t⟩; (case x=>k_is); (case y=>k_is); (case z=>k_is); (case t=>k_is))
  (case q16=>refine' ⟨?x,?y,?z,?t⟩; (case x=>k_is); (case y=>k_is); (case z=>k_is); (case t=>k_is))
  (case q17=>refine' ⟨?x,?y,?z,?t⟩; (case x=>k_is); (case y=>k_is); (case z=>k_is); (case t=>k_is))
  (case q18=>refine' ⟨?x,?y,?z,?t⟩; (case x=>k_is); (case y=>k_is); (case z=>k_is); (case t=>k_is))
  (case q19=>refine' ⟨?x,?y,?z,?t⟩; (case x=>k_is); (case y=>k_is); (case z=>k_is); (case t=>k_is))
  (case q20=>refine' ⟨?x,?y,?z,?t⟩; (case x=>k_is); (case y=>k_is); (case z=>k_is); (case t=>k_is))
  (case aMOST_ROWS=>k_is)
  (case z_len=>kernel_rfl)
  (case z_range=>kernel_rfl)
  (case z_isinstance=>kernel_rfl)
  (case z_max=>kernel_rfl)
  (case z_min=>kernel_rfl)
  (case z_int=>kernel_rfl)
  (case z_bool=>kernel_rfl)
  (case z_tuple=>kernel_rfl)
  (case z_list=>kernel_rfl)
  (case z_abs=>kernel_rfl)
  (case z_str=>kernel_rfl)
  (case z_sum=>kernel_rfl)
  (case z_sorted=>kernel_rfl)
  (case z_reversed=>kernel_rfl)
  (case z_enumerate=>kernel_rfl)
  (case z_set=>kernel_rfl)
  (case z_all=>kernel_rfl)
  (case z_zip=>kernel_rfl)
  (case z_any=>kernel_rfl)
  (case ct=>rfl)
  (case aTooMany=>k_is)
  (case qxTooMany=>kernel_rfl)
  (case aL=>k_is)
  (case zE=>kernel_rfl)
  (case qc=>kernel_rfl)
