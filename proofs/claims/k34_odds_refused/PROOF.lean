import PyProof.Rows.All
import Wide.All
import OpenK.AllK
import Wide.FinOn
import Lean
import PyProof.EqAt
import PyProof.EqKinds
import PyProof.TupleCall
import PySem.Challenge.RW_lotdraw_k34_odds_refused
set_option Elab.async false
set_option linter.all false
set_option maxRecDepth 100000
set_option tactic.hygienic false
namespace L2
open PySem
noncomputable def defArgs (s:Stmt):Arguments:=match s with
 | .FunctionDef _ a _ _ _ _ _ _ _ _=>a
 | _=>{ posonlyargs:=[],args:=[],vararg:=none,kwonlyargs:=[],kw_defaults:=[],kwarg:=none,defaults:=[] }
noncomputable def defBody (s:Stmt):List Stmt:=match s with
 | .FunctionDef _ _ b _ _ _ _ _ _ _=>b
 | _=>[]
noncomputable def defScope (s:Stmt):Scope:=match s with
 | .FunctionDef _ _ _ _ _ _ sc _ _ _=>sc
 | _=>{ kind:=.function,names:=[],isGenerator:=false,isCoroutine:=false }
end L2
namespace Hd
open PySem PySem.W
noncomputable def runT (tb:String->Option Builtin) (p:Program) (w:World) (m:Nat) (ann:Option Value):Nat->SharedT->Thread->Option SharedT
 | 0,_,_=>none
 | n + 1,s,t=>match through t with
   | true=>some s
   | false=>match stepOk m ann t with
     | false=>none
     | true=>match stepT (denote tb) p w s t with
       | some (s',t')=>runT tb p w m ann n s' t'
       | none=>none
theorem zlm {tb:String->Option Builtin} {p:Program} {w:World} {m:Nat} {ann:Option Value}:∀ {n:Nat} {s s':SharedT} {t:Thread},runT tb p w m ann n s t=some s'->topRun tb p w m ann n s.abs t=some s'.abs
 | 0,_,_,_,h=>by cases h
 | n + 1,s,s',t,h=>by
   unfold runT at h
   unfold topRun
   cases he:through t with
   | true=>rw [he] at h; cases h; rfl
   | false=>
     rw [he] at h
     cases hk:stepOk m ann t with
     | false=>rw [hk] at h; cases h
     | true=>
       rw [hk] at h
       cases hs:stepT (denote tb) p w s t with
       | none=>rw [hs] at h; cases h
       | some r=>obtain ⟨s2,t2⟩:=r; rw [hs] at h; rw [stepT_spec hs]; exact zlm h
noncomputable def bootT (P:Params):BT:=(.node (boot_o_0 P) (.node (boot_o_1 P) (.node (boot_o_3 P) (.node (boot_o_7 P) .nil .nil) .nil) (.node (boot_o_5 P) (.node (boot_o_9 P) .nil .nil) .nil)) (.node (boot_o_2 P) (.node (boot_o_4 P) (.node (boot_o_8 P) .nil .nil) .nil) (.node (boot_o_6 P) (.node (boot_o_10 P) .nil .nil) .nil)))
theorem zmM (P:Params):boot_heap P=absHeap (bootT P) 11 (boot_heap P).life:=by kernel_rfl
noncomputable def bootS (w:World) (os:OsState):SharedT:=⟨bootT w.params,11,(boot_heap w.params).life,Array.mk [],boot_drawn,boot_toks,os⟩
theorem zoi (w:World) (os:OsState):(bootS w os).abs=⟨boot_heap w.params,Array.mk [],boot_drawn,boot_toks,os⟩:=by
 show Shared.mk (absHeap (bootT w.params) 11 (boot_heap w.params).life) _ _ _ _=_
 rw [<- zmM]; rfl
theorem zkf (P:Params):((boot_heap P).isNs mainGlobals,(boot_heap P).objs.size,(boot_heap P).nsMap mainGlobals "__annotations__")=(true,11,some (.ref 6)):=by kernel_rfl
theorem zlq {p q:Program} {loose:List Str} {Xt:Shared->Bool} {α:Type} {Yf:Shared->α} {Ya:World->α} {N:Nat} (e:opening p=plainProg p.main.scope.names) (hN:Nat.ble 600 N=true) (f:∀ s,fenceModules? p s=some s)
  (one:∀ (w:World) (os:OsState),(runT treeTable p w 11 (some (.ref 6)) N (bootS w os) (topStub p)).map (fun s=>((staticsOk (importedModules p.main.body) (boot_heap w.params) s.abs.heap && namesBound p s.abs.heap && gensDone s.abs && laidKept (boot_heap w.params) s.abs.heap),Yf s.abs))=some (true,Ya w))
  (two:∀ (w:World) (os:OsState),(runT treeTable p w 11 (some (.ref 6)) N (bootS w os) (topStub p)).map (fun s=>openSeen q loose (importedModules p.main.body) Xt true s.abs)=some (openGood q loose)):
  LeftO p q loose Xt Yf Ya N:=fun w=>by
 obtain ⟨⟨h,gs,d,k,os⟩,e1,e2⟩:=Option.map_eq_some_iff.mp (boot_open e hN f w)
 obtain ⟨rfl,rfl,rfl,rfl⟩:h=boot_heap w.params /\ gs=Array.mk [] /\ d=boot_drawn /\ k=boot_toks:=by simpa using e2
 obtain ⟨s,r,l⟩:=Option.map_eq_some_iff.mp (one w os)
 obtain ⟨l1,l3⟩:_ /\ _:=by simpa only [Prod.mk.injEq] using l
 have l2:openSeen q loose (importedModules p.main.body) Xt true s.abs=openGood q loose:=by
  have:=two w os
  rw [r] at this
  exact Option.some.inj this
 obtain ⟨z1,z2,z3⟩:_ /\ _ /\ _:=by simpa only [Prod.mk.injEq] using zkf w.params
 have r':=zlm r
 rw [zoi] at r'
 have t:topFrom treeTable p w N ⟨boot_heap w.params,Array.mk [],boot_drawn,boot_toks,os⟩=some s.abs:=by
  unfold topFrom
  dsimp only
  rw [z1,z2,z3,r']
  show (match staticsOk (importedModules p.main.body) (boot_heap w.params) s.abs.heap && namesBound p s.abs.heap && gensDone s.abs && laidKept (boot_heap w.params) s.abs.heap with | true=>_ | false=>_)=_
  rw [l1]
 unfold openEnds
 rw [e1]
 show (topFrom treeTable p w N ⟨boot_heap w.params,Array.mk [],boot_drawn,boot_toks,os⟩).map _=_
 rw [t,Option.map_some,l2,l3]
end Hd
namespace MyLaw
open PySem PySem.W L2
noncomputable def top (i:Nat):Stmt:=PySem.Challenge.pw_lotdraw_k34_odds_refused.main.body.getD i (.Pass ⟨0,0,0,0⟩)
end MyLaw
namespace MyLaw
open PySem PySem.W L2
noncomputable def viewP:Program:={ PySem.Challenge.pw_lotdraw_k34_odds_refused with main:={ PySem.Challenge.pw_lotdraw_k34_odds_refused.main with body:=[top 1,top 2,top 3,top 4,top 5,top 6,top 7,top 9,top 10,top 11,top 12,top 13,top 14,top 15,top 17,top 18,top 19,top 20,top 21,top 22,top 23,top 25,top 26,top 27,top 28,top 29,top 30,top 32,top 33,top 35,top 36,top 37,top 39,top 40,top 41,top 42,top 43,top 44,top 45,top 47,top 48,top 49,top 50,top 51,top 52,top 53,top 54,top 55,top 56,top 57,top 58,top 59] } }
noncomputable def hpK:Params->Frag:=fun P=>(nat_lit 2,⟨.none,none,(.dict #[] 0),#[]⟩) ::
 (nat_lit 3,⟨(.type "dict"),none,(.dict #[⟨(PyData.keyHash P "__name__"),(.str "__name__" 165),(.str "law_lotdraw_k34_odds_refused" 563)⟩,⟨(PyData.keyHash P "__doc__"),(.str "__doc__" 166),.none⟩,⟨(PyData.keyHash P "__package__"),(.str "__package__" 167),.none⟩,⟨(PyData.keyHash P "__loader__"),(.str "__loader__" 168),(.builtin "__main__.__loader__#opaque")⟩,⟨(PyData.keyHash P "__spec__"),(.str "__spec__" 169),.none⟩,⟨(PyData.keyHash P "__annotations__"),(.str "__annotations__" 170),(.ref 6)⟩,⟨(PyData.keyHash P "__builtins__"),(.str "__builtins__" 171),(.ref 4)⟩,⟨(PyData.keyHash P "__file__"),(.str "__file__" 173),(.str "/claim/cut.py" 172)⟩,⟨(PyData.keyHash P "__cached__"),(.str "__cached__" 174),.none⟩,⟨(PyData.keyHash P "LotError"),(.str "LotError" 206),(.ref 24)⟩,⟨(PyData.keyHash P "NoNumber"),(.str "NoNumber" 222),(.ref 37)⟩,⟨(PyData.keyHash P "NoPlan"),(.str "NoPlan" 238),(.ref 49)⟩,⟨(PyData.keyHash P "NoEnd"),(.str "NoEnd" 254),(.ref 61)⟩,⟨(PyData.keyHash P "NoTelling"),(.str "NoTelling" 270),(.ref 73)⟩,⟨(PyData.keyHash P "NoLot"),(.str "NoLot" 286),(.ref 85)⟩,⟨(PyData.keyHash P "NoShares"),(.str "NoShares" 302),(.ref 97)⟩,⟨(PyData.keyHash P "LONG"),(.str "LONG" 306),(.int 4000 305)⟩,⟨(PyData.keyHash P "WINDOW"),(.str "WINDOW" 308),(.int 240 307)⟩,⟨(PyData.keyHash P "SHED"),(.str "SHED" 310),(.int 120 309)⟩,⟨(PyData.keyHash P "frac"),(.str "frac" 319),(.ref 106)⟩,⟨(PyData.keyHash P "times"),(.str "times" 329),(.ref 113)⟩,⟨(PyData.keyHash P "greatest_divisor"),(.str "greatest_divisor" 339),(.ref 120)⟩,⟨(PyData.keyHash P "leap"),(.str "leap" 352),(.ref 127)⟩,⟨(PyData.keyHash P "goes_on"),(.str "goes_on" 363),(.ref 134)⟩,⟨(PyData.keyHash P "come_to"),(.str "come_to" 369),(.ref 139)⟩,⟨(PyData.keyHash P "ends"),(.str "ends" 375),(.ref 144)⟩,⟨(PyData.keyHash P "drawn_on"),(.str "drawn_on" 381),(.ref 149)⟩,⟨(PyData.keyHash P "check_ends"),(.str "check_ends" 391),(.ref 156)⟩,⟨(PyData.keyHash P "led_to"),(.str "led_to" 397),(.ref 161)⟩,⟨(PyData.keyHash P "after"),(.str "after" 405),(.ref 168)⟩,⟨(PyData.keyHash P "NOUGHT"),(.str "NOUGHT" 410),(.ref 169)⟩,⟨(PyData.keyHash P "scaled"),(.str "scaled" 416),(.ref 174)⟩,⟨(PyData.keyHash P "of_count"),(.str "of_count" 427),(.ref 181)⟩,⟨(PyData.keyHash P "trimmed"),(.str "trimmed" 435),(.ref 188)⟩,⟨(PyData.keyHash P "common_bottom"),(.str "common_bottom" 444),(.ref 195)⟩,⟨(PyData.keyHash P "tops_over"),(.str "tops_over" 450),(.ref 200)⟩,⟨(PyData.keyHash P "ways_to"),(.str "ways_to" 460),(.ref 207)⟩,⟨(PyData.keyHash P "ways_from"),(.str "ways_from" 472),(.ref 214)⟩,⟨(PyData.keyHash P "odds"),(.str "odds" 482),(.ref 221)⟩,⟨(PyData.keyHash P "mean_of"),(.str "mean_of" 488),(.ref 226)⟩,⟨(PyData.keyHash P "check_telling"),(.str "check_telling" 496),(.ref 233)⟩,⟨(PyData.keyHash P "MOST_PIECES"),(.str "MOST_PIECES" 500),(.int 200 499)⟩,⟨(PyData.keyHash P "lot_odds"),(.str "lot_odds" 510),(.ref 240)⟩,⟨(PyData.keyHash P "lot_mean"),(.str "lot_mean" 526),(.ref 247)⟩,⟨(PyData.keyHash P "check_lot"),(.str "check_lot" 535),(.ref 254)⟩,⟨(PyData.keyHash P "check_size"),(.str "check_size" 543),(.ref 261)⟩,⟨(PyData.keyHash P "choices"),(.str "choices" 552),(.ref 268)⟩,⟨(PyData.keyHash P "falling"),(.str "falling" 562),(.ref 275)⟩,⟨(PyData.keyHash P "_law_cell"),(.str "_law_cell" 572),(.ref 282)⟩,⟨(PyData.keyHash P "_law_digits"),(.str "_law_digits" 583),(.ref 289)⟩,⟨(PyData.keyHash P "_law_mixes"),(.str "_law_mixes" 595),(.ref 296)⟩,⟨(PyData.keyHash P "_law_plan"),(.str "_law_plan" 601),(.ref 301)⟩,⟨(PyData.keyHash P "_law_most"),(.str "_law_most" 608),(.ref 308)⟩,⟨(PyData.keyHash P "_law_ends"),(.str "_law_ends" 614),(.ref 313)⟩,⟨(PyData.keyHash P "_law_ways"),(.str "_law_ways" 627),(.ref 320)⟩,⟨(PyData.keyHash P "_law_word"),(.str "_law_word" 635),(.ref 327)⟩,⟨(PyData.keyHash P "_law_answer"),(.str "_law_answer" 648),(.ref 334)⟩,⟨(PyData.keyHash P "_law_lot"),(.str "_law_lot" 660),(.ref 341)⟩,⟨(PyData.keyHash P "_law_count"),(.str "_law_count" 673),(.ref 348)⟩,⟨(PyData.keyHash P "_law_due"),(.str "_law_due" 685),(.ref 355)⟩,⟨(PyData.keyHash P "law"),(.str "law" 691),(.ref 360)⟩] 61),#[]⟩) ::
 (nat_lit 23,⟨(.type "dict"),none,(.dict #[⟨(PyData.keyHash P "__module__"),(.str "__module__" 196),(.str "lotdraw.errors" 187)⟩,⟨(PyData.keyHash P "__firstlineno__"),(.str "__firstlineno__" 200),(.int 2 199)⟩,⟨(PyData.keyHash P "__static_attributes__"),(.str "__static_attributes__" 201),(.ref 22)⟩,⟨(PyData.keyHash P "__weakref__"),(.str "__weakref__" 203),(.ref 25)⟩,⟨(PyData.keyHash P "__doc__"),(.str "__doc__" 204),.none⟩] 3),#[]⟩) ::
 (nat_lit 24,⟨(.type "type"),none,(.cls ⟨"LotError",[(.type "ValueError")],[(.ref 24),(.type "ValueError"),(.type "Exception"),(.type "BaseException"),(.type "object")],23,"LotError",true,[],[(.ref 37),(.ref 49),(.ref 61),(.ref 73),(.ref 85),(.ref 97)],false,none,false⟩),#[(some (.ref 15)),none,(some (.str "LotError" 189)),(some (.str "LotError" 197)),(some (.builtin "ValueError.__new__")),(some (.bool true))]⟩) ::
 (nat_lit 25,⟨(.type "getset_descriptor"),none,(.fields #[(.str "__weakref__" 202),(.ref 24),(.builtin "ExceptionGroup.__weakref__"),.none]),#[]⟩) ::
 (nat_lit 36,⟨(.type "dict"),none,(.dict #[⟨(PyData.keyHash P "__module__"),(.str "__module__" 214),(.str "lotdraw.errors" 187)⟩,⟨(PyData.keyHash P "__firstlineno__"),(.str "__firstlineno__" 218),(.int 4 217)⟩,⟨(PyData.keyHash P "__static_attributes__"),(.str "__static_attributes__" 219),(.ref 35)⟩,⟨(PyData.keyHash P "__doc__"),(.str "__doc__" 220),.none⟩] 2),#[]⟩) ::
 (nat_lit 37,⟨(.type "type"),none,(.cls ⟨"NoNumber",[(.ref 24)],[(.ref 37),(.ref 24),(.type "ValueError"),(.type "Exception"),(.type "BaseException"),(.type "object")],36,"NoNumber",true,[],[],false,none,false⟩),#[(some (.ref 28)),none,(some (.str "NoNumber" 207)),(some (.str "NoNumber" 215)),(some (.builtin "ValueError.__new__")),(some (.bool true))]⟩) ::
 (nat_lit 48,⟨(.type "dict"),none,(.dict #[⟨(PyData.keyHash P "__module__"),(.str "__module__" 230),(.str "lotdraw.errors" 187)⟩,⟨(PyData.keyHash P "__firstlineno__"),(.str "__firstlineno__" 234),(.int 6 233)⟩,⟨(PyData.keyHash P "__static_attributes__"),(.str "__static_attributes__" 235),(.ref 47)⟩,⟨(PyData.keyHash P "__doc__"),(.str "__doc__" 236),.none⟩] 2),#[]⟩) ::
 (nat_lit 49,⟨(.type "type"),none,(.cls ⟨"NoPlan",[(.ref 24)],[(.ref 49),(.ref 24),(.type "ValueError"),(.type "Exception"),(.type "BaseException"),(.type "object")],48,"NoPlan",true,[],[],false,none,false⟩),#[(some (.ref 40)),none,(some (.str "NoPlan" 223)),(some (.str "NoPlan" 231)),(some (.builtin "ValueError.__new__")),(some (.bool true))]⟩) ::
 (nat_lit 60,⟨(.type "dict"),none,(.dict #[⟨(PyData.keyHash P "__module__"),(.str "__module__" 246),(.str "lotdraw.errors" 187)⟩,⟨(PyData.keyHash P "__firstlineno__"),(.str "__firstlineno__" 250),(.int 8 249)⟩,⟨(PyData.keyHash P "__static_attributes__"),(.str "__static_attributes__" 251),(.ref 59)⟩,⟨(PyData.keyHash P "__doc__"),(.str "__doc__" 252),.none⟩] 2),#[]⟩) ::
 (nat_lit 61,⟨(.type "type"),none,(.cls ⟨"NoEnd",[(.ref 24)],[(.ref 61),(.ref 24),(.type "ValueError"),(.type "Exception"),(.type "BaseException"),(.type "object")],60,"NoEnd",true,[],[],false,none,false⟩),#[(some (.ref 52)),none,(some (.str "NoEnd" 239)),(some (.str "NoEnd" 247)),(some (.builtin "ValueError.__new__")),(some (.bool true))]⟩) ::
 (nat_lit 72,⟨(.type "dict"),none,(.dict #[⟨(PyData.keyHash P "__module__"),(.str "__module__" 262),(.str "lotdraw.errors" 187)⟩,⟨(PyData.keyHash P "__firstlineno__"),(.str "__firstlineno__" 266),(.int 10 265)⟩,⟨(PyData.keyHash P "__static_attributes__"),(.str "__static_attributes__" 267),(.ref 71)⟩,⟨(PyData.keyHash P "__doc__"),(.str "__doc__" 268),.none⟩] 2),#[]⟩) ::
 (nat_lit 73,⟨(.type "type"),none,(.cls ⟨"NoTelling",[(.ref 24)],[(.ref 73),(.ref 24),(.type "ValueError"),(.type "Exception"),(.type "BaseException"),(.type "object")],72,"NoTelling",true,[],[],false,none,false⟩),#[(some (.ref 64)),none,(some (.str "NoTelling" 255)),(some (.str "NoTelling" 263)),(some (.builtin "ValueError.__new__")),(some (.bool true))]⟩) ::
 (nat_lit 84,⟨(.type "dict"),none,(.dict #[⟨(PyData.keyHash P "__module__"),(.str "__module__" 278),(.str "lotdraw.errors" 187)⟩,⟨(PyData.keyHash P "__firstlineno__"),(.str "__firstlineno__" 282),(.int 12 281)⟩,⟨(PyData.keyHash P "__static_attributes__"),(.str "__static_attributes__" 283),(.ref 83)⟩,⟨(PyData.keyHash P "__doc__"),(.str "__doc__" 284),.none⟩] 2),#[]⟩) ::
 (nat_lit 85,⟨(.type "type"),none,(.cls ⟨"NoLot",[(.ref 24)],[(.ref 85),(.ref 24),(.type "ValueError"),(.type "Exception"),(.type "BaseException"),(.type "object")],84,"NoLot",true,[],[],false,none,false⟩),#[(some (.ref 76)),none,(some (.str "NoLot" 271)),(some (.str "NoLot" 279)),(some (.builtin "ValueError.__new__")),(some (.bool true))]⟩) ::
 (nat_lit 96,⟨(.type "dict"),none,(.dict #[⟨(PyData.keyHash P "__module__"),(.str "__module__" 294),(.str "lotdraw.errors" 187)⟩,⟨(PyData.keyHash P "__firstlineno__"),(.str "__firstlineno__" 298),(.int 14 297)⟩,⟨(PyData.keyHash P "__static_attributes__"),(.str "__static_attributes__" 299),(.ref 95)⟩,⟨(PyData.keyHash P "__doc__"),(.str "__doc__" 300),.none⟩] 2),#[]⟩) ::
 (nat_lit 97,⟨(.type "type"),none,(.cls ⟨"NoShares",[(.ref 24)],[(.ref 97),(.ref 24),(.type "ValueError"),(.type "Exception"),(.type "BaseException"),(.type "object")],96,"NoShares",true,[],[],false,none,false⟩),#[(some (.ref 88)),none,(some (.str "NoShares" 287)),(some (.str "NoShares" 295)),(some (.builtin "ValueError.__new__")),(some (.bool true))]⟩) ::
 (nat_lit 105,⟨(.type "code"),none,(.fields #[(.str "frac" 311),(.str "frac" 312),(.str "/claim/cut.py" 313),(.int 20 0),(.int 2 0),(.int 0 0),(.int 0 0),(.int 3 0),(.ref 100),(.bool true),(.int 181 0),(.ref 101),.none,(.ref 102),(.ref 103),(.ref 104),(.int 317 0),(.int 20 0),(.str "/claim/cut.py" 318)]),#[]⟩) ::
 (nat_lit 106,⟨(.type "function"),none,.func (fnOf "frac" "frac" (defArgs (top 12)) (defBody (top 12)) (defScope (top 12)) .none .none .none (.str "lotdraw.fracs" 303) none (.ref 105) .none),#[]⟩) ::
 (nat_lit 112,⟨(.type "code"),none,(.fields #[(.str "times" 320),(.str "times" 321),(.str "/claim/cut.py" 322),(.int 27 0),(.int 2 0),(.int 0 0),(.int 0 0),(.int 3 0),(.ref 107),(.bool true),(.int 181 0),(.ref 108),.none,(.ref 109),(.ref 110),(.ref 111),(.int 327 0),(.int 27 0),(.str "/claim/cut.py" 328)]),#[]⟩) ::
 (nat_lit 113,⟨(.type "function"),none,.func (fnOf "times" "times" (defArgs (top 13)) (defBody (top 13)) (defScope (top 13)) .none .none .none (.str "lotdraw.fracs" 303) none (.ref 112) .none),#[]⟩) ::
 (nat_lit 119,⟨(.type "code"),none,(.fields #[(.str "greatest_divisor" 330),(.str "greatest_divisor" 331),(.str "/claim/cut.py" 332),(.int 31 0),(.int 2 0),(.int 0 0),(.int 0 0),(.int 3 0),(.ref 114),(.bool true),(.int 181 0),(.ref 115),.none,(.ref 116),(.ref 117),(.ref 118),(.int 337 0),(.int 31 0),(.str "/claim/cut.py" 338)]),#[]⟩) ::
 (nat_lit 120,⟨(.type "function"),none,.func (fnOf "greatest_divisor" "greatest_divisor" (defArgs (top 14)) (defBody (top 14)) (defScope (top 14)) .none .none .none (.str "lotdraw.fracs" 303) none (.ref 119) .none),#[]⟩) ::
 (nat_lit 126,⟨(.type "code"),none,(.fields #[(.str "leap" 340),(.str "leap" 341),(.str "/claim/cut.py" 342),(.int 43 0),(.int 2 0),(.int 0 0),(.int 0 0),(.int 3 0),(.ref 121),(.bool true),(.int 181 0),(.ref 122),.none,(.ref 123),(.ref 124),(.ref 125),(.int 350 0),(.int 43 0),(.str "/claim/cut.py" 351)]),#[]⟩) ::
 (nat_lit 127,⟨(.type "function"),none,.func (fnOf "leap" "leap" (defArgs (top 15)) (defBody (top 15)) (defScope (top 15)) .none .none .none (.str "lotdraw.fracs" 303) none (.ref 126) .none),#[]⟩) ::
 (nat_lit 133,⟨(.type "code"),none,(.fields #[(.str "goes_on" 355),(.str "goes_on" 356),(.str "/claim/cut.py" 357),(.int 54 0),(.int 2 0),(.int 0 0),(.int 0 0),(.int 3 0),(.ref 128),(.bool true),(.int 181 0),(.ref 129),.none,(.ref 130),(.ref 131),(.ref 132),(.int 361 0),(.int 54 0),(.str "/claim/cut.py" 362)]),#[]⟩) ::
 (nat_lit 134,⟨(.type "function"),none,.func (fnOf "goes_on" "goes_on" (defArgs (top 17)) (defBody (top 17)) (defScope (top 17)) .none .none .none (.str "lotdraw.plans" 353) none (.ref 133) .none),#[]⟩) ::
 (nat_lit 138,⟨(.type "code"),none,(.fields #[(.str "come_to" 364),(.str "come_to" 365),(.str "/claim/cut.py" 366),(.int 57 0),(.int 1 0),(.int 0 0),(.int 0 0),(.int 3 0),(.ref 135),(.bool true),(.int 181 0),(.ref 136),.none,.none,.none,(.ref 137),(.int 367 0),(.int 57 0),(.str "/claim/cut.py" 368)]),#[]⟩) ::
 (nat_lit 139,⟨(.type "function"),none,.func (fnOf "come_to" "come_to" (defArgs (top 18)) (defBody (top 18)) (defScope (top 18)) .none .none .none (.str "lotdraw.plans" 353) none (.ref 138) .none),#[]⟩) ::
 (nat_lit 143,⟨(.type "code"),none,(.fields #[(.str "ends" 370),(.str "ends" 371),(.str "/claim/cut.py" 372),(.int 62 0),(.int 1 0),(.int 0 0),(.int 0 0),(.int 3 0),(.ref 140),(.bool true),(.int 181 0),(.ref 141),.none,.none,.none,(.ref 142),(.int 373 0),(.int 62 0),(.str "/claim/cut.py" 374)]),#[]⟩) ::
 (nat_lit 144,⟨(.type "function"),none,.func (fnOf "ends" "ends" (defArgs (top 19)) (defBody (top 19)) (defScope (top 19)) .none .none .none (.str "lotdraw.plans" 353) none (.ref 143) .none),#[]⟩) ::
 (nat_lit 148,⟨(.type "code"),none,(.fields #[(.str "drawn_on" 376),(.str "drawn_on" 377),(.str "/claim/cut.py" 378),(.int 64 0),(.int 1 0),(.int 0 0),(.int 0 0),(.int 3 0),(.ref 145),(.bool true),(.int 181 0),(.ref 146),.none,.none,.none,(.ref 147),(.int 379 0),(.int 64 0),(.str "/claim/cut.py" 380)]),#[]⟩) ::
 (nat_lit 149,⟨(.type "function"),none,.func (fnOf "drawn_on" "drawn_on" (defArgs (top 20)) (defBody (top 20)) (defScope (top 20)) .none .none .none (.str "lotdraw.plans" 353) none (.ref 148) .none),#[]⟩) ::
 (nat_lit 155,⟨(.type "code"),none,(.fields #[(.str "check_ends" 382),(.str "check_ends" 383),(.str "/claim/cut.py" 384),(.int 69 0),(.int 2 0),(.int 0 0),(.int 0 0),(.int 3 0),(.ref 150),(.bool true),(.int 181 0),(.ref 151),.none,(.ref 152),(.ref 153),(.ref 154),(.int 389 0),(.int 69 0),(.str "/claim/cut.py" 390)]),#[]⟩) ::
 (nat_lit 156,⟨(.type "function"),none,.func (fnOf "check_ends" "check_ends" (defArgs (top 21)) (defBody (top 21)) (defScope (top 21)) .none .none .none (.str "lotdraw.plans" 353) none (.ref 155) .none),#[]⟩) ::
 (nat_lit 160,⟨(.type "code"),none,(.fields #[(.str "led_to" 392),(.str "led_to" 393),(.str "/claim/cut.py" 394),(.int 74 0),(.int 1 0),(.int 0 0),(.int 0 0),(.int 3 0),(.ref 157),(.bool true),(.int 181 0),(.ref 158),.none,.none,.none,(.ref 159),(.int 395 0),(.int 74 0),(.str "/claim/cut.py" 396)]),#[]⟩) ::
 (nat_lit 161,⟨(.type "function"),none,.func (fnOf "led_to" "led_to" (defArgs (top 22)) (defBody (top 22)) (defScope (top 22)) .none .none .none (.str "lotdraw.plans" 353) none (.ref 160) .none),#[]⟩) ::
 (nat_lit 167,⟨(.type "code"),none,(.fields #[(.str "after" 398),(.str "after" 399),(.str "/claim/cut.py" 400),(.int 76 0),(.int 2 0),(.int 0 0),(.int 0 0),(.int 3 0),(.ref 162),(.bool true),(.int 181 0),(.ref 163),.none,(.ref 164),(.ref 165),(.ref 166),(.int 403 0),(.int 76 0),(.str "/claim/cut.py" 404)]),#[]⟩) ::
 (nat_lit 168,⟨(.type "function"),none,.func (fnOf "after" "after" (defArgs (top 23)) (defBody (top 23)) (defScope (top 23)) .none .none .none (.str "lotdraw.plans" 353) none (.ref 167) .none),#[]⟩) ::
 (nat_lit 169,⟨(.type "tuple"),none,(.seq #[(.int 0 408),(.int 1 409)] 0),#[]⟩) ::
 (nat_lit 173,⟨(.type "code"),none,(.fields #[(.str "scaled" 411),(.str "scaled" 412),(.str "/claim/cut.py" 413),(.int 82 0),(.int 2 0),(.int 0 0),(.int 0 0),(.int 3 0),(.ref 170),(.bool true),(.int 181 0),(.ref 171),.none,.none,.none,(.ref 172),(.int 414 0),(.int 82 0),(.str "/claim/cut.py" 415)]),#[]⟩) ::
 (nat_lit 174,⟨(.type "function"),none,.func (fnOf "scaled" "scaled" (defArgs (top 26)) (defBody (top 26)) (defScope (top 26)) .none .none .none (.str "lotdraw.polys" 406) none (.ref 173) .none),#[]⟩) ::
 (nat_lit 180,⟨(.type "code"),none,(.fields #[(.str "of_count" 417),(.str "of_count" 418),(.str "/claim/cut.py" 419),(.int 84 0),(.int 2 0),(.int 0 0),(.int 0 0),(.int 3 0),(.ref 175),(.bool true),(.int 181 0),(.ref 176),.none,(.ref 177),(.ref 178),(.ref 179),(.int 425 0),(.int 84 0),(.str "/claim/cut.py" 426)]),#[]⟩) ::
 (nat_lit 181,⟨(.type "function"),none,.func (fnOf "of_count" "of_count" (defArgs (top 27)) (defBody (top 27)) (defScope (top 27)) .none .none .none (.str "lotdraw.polys" 406) none (.ref 180) .none),#[]⟩) ::
 (nat_lit 187,⟨(.type "code"),none,(.fields #[(.str "trimmed" 428),(.str "trimmed" 429),(.str "/claim/cut.py" 430),(.int 91 0),(.int 1 0),(.int 0 0),(.int 0 0),(.int 3 0),(.ref 182),(.bool true),(.int 181 0),(.ref 183),.none,(.ref 184),(.ref 185),(.ref 186),(.int 433 0),(.int 91 0),(.str "/claim/cut.py" 434)]),#[]⟩) ::
 (nat_lit 188,⟨(.type "function"),none,.func (fnOf "trimmed" "trimmed" (defArgs (top 28)) (defBody (top 28)) (defScope (top 28)) .none .none .none (.str "lotdraw.polys" 406) none (.ref 187) .none),#[]⟩) ::
 (nat_lit 194,⟨(.type "code"),none,(.fields #[(.str "common_bottom" 436),(.str "common_bottom" 437),(.str "/claim/cut.py" 438),(.int 96 0),(.int 1 0),(.int 0 0),(.int 0 0),(.int 3 0),(.ref 189),(.bool true),(.int 181 0),(.ref 190),.none,(.ref 191),(.ref 192),(.ref 193),(.int 442 0),(.int 96 0),(.str "/claim/cut.py" 443)]),#[]⟩) ::
 (nat_lit 195,⟨(.type "function"),none,.func (fnOf "common_bottom" "common_bottom" (defArgs (top 29)) (defBody (top 29)) (defScope (top 29)) .none .none .none (.str "lotdraw.polys" 406) none (.ref 194) .none),#[]⟩) ::
 (nat_lit 199,⟨(.type "code"),none,(.fields #[(.str "tops_over" 445),(.str "tops_over" 446),(.str "/claim/cut.py" 447),(.int 101 0),(.int 2 0),(.int 0 0),(.int 0 0),(.int 3 0),(.ref 196),(.bool true),(.int 181 0),(.ref 197),.none,.none,.none,(.ref 198),(.int 448 0),(.int 101 0),(.str "/claim/cut.py" 449)]),#[]⟩) ::
 (nat_lit 200,⟨(.type "function"),none,.func (fnOf "tops_over" "tops_over" (defArgs (top 30)) (defBody (top 30)) (defScope (top 30)) .none .none .none (.str "lotdraw.polys" 406) none (.ref 199) .none),#[]⟩) ::
 (nat_lit 206,⟨(.type "code"),none,(.fields #[(.str "ways_to" 453),(.str "ways_to" 454),(.str "/claim/cut.py" 455),(.int 104 0),(.int 2 0),(.int 0 0),(.int 0 0),(.int 3 0),(.ref 201),(.bool true),(.int 181 0),(.ref 202),.none,(.ref 203),(.ref 204),(.ref 205),(.int 458 0),(.int 104 0),(.str "/claim/cut.py" 459)]),#[]⟩) ::
 (nat_lit 207,⟨(.type "function"),none,.func (fnOf "ways_to" "ways_to" (defArgs (top 32)) (defBody (top 32)) (defScope (top 32)) .none .none .none (.str "lotdraw.ways" 451) none (.ref 206) .none),#[]⟩) ::
 (nat_lit 213,⟨(.type "code"),none,(.fields #[(.str "ways_from" 461),(.str "ways_from" 462),(.str "/claim/cut.py" 463),(.int 106 0),(.int 2 0),(.int 0 0),(.int 0 0),(.int 3 0),(.ref 208),(.bool true),(.int 181 0),(.ref 209),.none,(.ref 210),(.ref 211),(.ref 212),(.int 470 0),(.int 106 0),(.str "/claim/cut.py" 471)]),#[]⟩) ::
 (nat_lit 214,⟨(.type "function"),none,.func (fnOf "ways_from" "ways_from" (defArgs (top 33)) (defBody (top 33)) (defScope (top 33)) .none .none .none (.str "lotdraw.ways" 451) none (.ref 213) .none),#[]⟩) ::
 (nat_lit 220,⟨(.type "code"),none,(.fields #[(.str "odds" 475),(.str "odds" 476),(.str "/claim/cut.py" 477),(.int 114 0),(.int 2 0),(.int 0 0),(.int 0 0),(.int 3 0),(.ref 215),(.bool true),(.int 181 0),(.ref 216),.none,(.ref 217),(.ref 218),(.ref 219),(.int 480 0),(.int 114 0),(.str "/claim/cut.py" 481)]),#[]⟩) ::
 (nat_lit 221,⟨(.type "function"),none,.func (fnOf "odds" "odds" (defArgs (top 35)) (defBody (top 35)) (defScope (top 35)) .none .none .none (.str "lotdraw.odds" 473) none (.ref 220) .none),#[]⟩) ::
 (nat_lit 225,⟨(.type "code"),none,(.fields #[(.str "mean_of" 483),(.str "mean_of" 484),(.str "/claim/cut.py" 485),(.int 117 0),(.int 2 0),(.int 0 0),(.int 0 0),(.int 3 0),(.ref 222),(.bool true),(.int 181 0),(.ref 223),.none,.none,.none,(.ref 224),(.int 486 0),(.int 117 0),(.str "/claim/cut.py" 487)]),#[]⟩) ::
 (nat_lit 226,⟨(.type "function"),none,.func (fnOf "mean_of" "mean_of" (defArgs (top 36)) (defBody (top 36)) (defScope (top 36)) .none .none .none (.str "lotdraw.odds" 473) none (.ref 225) .none),#[]⟩) ::
 (nat_lit 232,⟨(.type "code"),none,(.fields #[(.str "check_telling" 489),(.str "check_telling" 490),(.str "/claim/cut.py" 491),(.int 126 0),(.int 2 0),(.int 0 0),(.int 0 0),(.int 3 0),(.ref 227),(.bool true),(.int 181 0),(.ref 228),.none,(.ref 229),(.ref 230),(.ref 231),(.int 494 0),(.int 126 0),(.str "/claim/cut.py" 495)]),#[]⟩) ::
 (nat_lit 233,⟨(.type "function"),none,.func (fnOf "check_telling" "check_telling" (defArgs (top 37)) (defBody (top 37)) (defScope (top 37)) .none .none .none (.str "lotdraw.odds" 473) none (.ref 232) .none),#[]⟩) ::
 (nat_lit 239,⟨(.type "code"),none,(.fields #[(.str "lot_odds" 501),(.str "lot_odds" 502),(.str "/claim/cut.py" 503),(.int 131 0),(.int 4 0),(.int 0 0),(.int 0 0),(.int 3 0),(.ref 234),(.bool true),(.int 181 0),(.ref 235),.none,(.ref 236),(.ref 237),(.ref 238),(.int 508 0),(.int 131 0),(.str "/claim/cut.py" 509)]),#[]⟩) ::
 (nat_lit 240,⟨(.type "function"),none,.func (fnOf "lot_odds" "lot_odds" (defArgs (top 40)) (defBody (top 40)) (defScope (top 40)) .none .none .none (.str "lotdraw.lots" 497) none (.ref 239) .none),#[]⟩) ::
 (nat_lit 246,⟨(.type "code"),none,(.fields #[(.str "lot_mean" 511),(.str "lot_mean" 512),(.str "/claim/cut.py" 513),(.int 135 0),(.int 4 0),(.int 0 0),(.int 0 0),(.int 3 0),(.ref 241),(.bool true),(.int 181 0),(.ref 242),.none,(.ref 243),(.ref 244),(.ref 245),(.int 524 0),(.int 135 0),(.str "/claim/cut.py" 525)]),#[]⟩) ::
 (nat_lit 247,⟨(.type "function"),none,.func (fnOf "lot_mean" "lot_mean" (defArgs (top 41)) (defBody (top 41)) (defScope (top 41)) .none .none .none (.str "lotdraw.lots" 497) none (.ref 246) .none),#[]⟩) ::
 (nat_lit 253,⟨(.type "code"),none,(.fields #[(.str "check_lot" 527),(.str "check_lot" 528),(.str "/claim/cut.py" 529),(.int 145 0),(.int 3 0),(.int 0 0),(.int 0 0),(.int 3 0),(.ref 248),(.bool true),(.int 181 0),(.ref 249),.none,(.ref 250),(.ref 251),(.ref 252),(.int 533 0),(.int 145 0),(.str "/claim/cut.py" 534)]),#[]⟩) ::
 (nat_lit 254,⟨(.type "function"),none,.func (fnOf "check_lot" "check_lot" (defArgs (top 42)) (defBody (top 42)) (defScope (top 42)) .none .none .none (.str "lotdraw.lots" 497) none (.ref 253) .none),#[]⟩) ::
 (nat_lit 260,⟨(.type "code"),none,(.fields #[(.str "check_size" 536),(.str "check_size" 537),(.str "/claim/cut.py" 538),(.int 149 0),(.int 2 0),(.int 0 0),(.int 0 0),(.int 3 0),(.ref 255),(.bool true),(.int 181 0),(.ref 256),.none,(.ref 257),(.ref 258),(.ref 259),(.int 541 0),(.int 149 0),(.str "/claim/cut.py" 542)]),#[]⟩) ::
 (nat_lit 261,⟨(.type "function"),none,.func (fnOf "check_size" "check_size" (defArgs (top 43)) (defBody (top 43)) (defScope (top 43)) .none .none .none (.str "lotdraw.lots" 497) none (.ref 260) .none),#[]⟩) ::
 (nat_lit 267,⟨(.type "code"),none,(.fields #[(.str "choices" 544),(.str "choices" 545),(.str "/claim/cut.py" 546),(.int 152 0),(.int 3 0),(.int 0 0),(.int 0 0),(.int 3 0),(.ref 262),(.bool true),(.int 181 0),(.ref 263),.none,(.ref 264),(.ref 265),(.ref 266),(.int 550 0),(.int 152 0),(.str "/claim/cut.py" 551)]),#[]⟩) ::
 (nat_lit 268,⟨(.type "function"),none,.func (fnOf "choices" "choices" (defArgs (top 44)) (defBody (top 44)) (defScope (top 44)) .none .none .none (.str "lotdraw.lots" 497) none (.ref 267) .none),#[]⟩) ::
 (nat_lit 274,⟨(.type "code"),none,(.fields #[(.str "falling" 553),(.str "falling" 554),(.str "/claim/cut.py" 555),(.int 154 0),(.int 2 0),(.int 0 0),(.int 0 0),(.int 3 0),(.ref 269),(.bool true),(.int 181 0),(.ref 270),.none,(.ref 271),(.ref 272),(.ref 273),(.int 560 0),(.int 154 0),(.str "/claim/cut.py" 561)]),#[]⟩) ::
 (nat_lit 275,⟨(.type "function"),none,.func (fnOf "falling" "falling" (defArgs (top 45)) (defBody (top 45)) (defScope (top 45)) .none .none .none (.str "lotdraw.lots" 497) none (.ref 274) .none),#[]⟩) ::
 (nat_lit 281,⟨(.type "code"),none,(.fields #[(.str "_law_cell" 565),(.str "_law_cell" 566),(.str "/claim/cut.py" 567),(.int 160 0),(.int 2 0),(.int 0 0),(.int 0 0),(.int 3 0),(.ref 276),(.bool true),(.int 181 0),(.ref 277),.none,(.ref 278),(.ref 279),(.ref 280),(.int 570 0),(.int 160 0),(.str "/claim/cut.py" 571)]),#[]⟩) ::
 (nat_lit 282,⟨(.type "function"),none,.func (fnOf "_law_cell" "_law_cell" (defArgs (top 47)) (defBody (top 47)) (defScope (top 47)) .none .none .none (.str "law_lotdraw_k34_odds_refused" 563) none (.ref 281) .none),#[]⟩) ::
 (nat_lit 288,⟨(.type "code"),none,(.fields #[(.str "_law_digits" 573),(.str "_law_digits" 574),(.str "/claim/cut.py" 575),(.int 164 0),(.int 3 0),(.int 0 0),(.int 0 0),(.int 3 0),(.ref 283),(.bool true),(.int 181 0),(.ref 284),.none,(.ref 285),(.ref 286),(.ref 287),(.int 581 0),(.int 164 0),(.str "/claim/cut.py" 582)]),#[]⟩) ::
 (nat_lit 289,⟨(.type "function"),none,.func (fnOf "_law_digits" "_law_digits" (defArgs (top 48)) (defBody (top 48)) (defScope (top 48)) .none .none .none (.str "law_lotdraw_k34_odds_refused" 563) none (.ref 288) .none),#[]⟩) ::
 (nat_lit 295,⟨(.type "code"),none,(.fields #[(.str "_law_mixes" 584),(.str "_law_mixes" 585),(.str "/claim/cut.py" 586),(.int 170 0),(.int 3 0),(.int 0 0),(.int 0 0),(.int 3 0),(.ref 290),(.bool true),(.int 181 0),(.ref 291),.none,(.ref 292),(.ref 293),(.ref 294),(.int 593 0),(.int 170 0),(.str "/claim/cut.py" 594)]),#[]⟩) ::
 (nat_lit 296,⟨(.type "function"),none,.func (fnOf "_law_mixes" "_law_mixes" (defArgs (top 49)) (defBody (top 49)) (defScope (top 49)) .none .none .none (.str "law_lotdraw_k34_odds_refused" 563) none (.ref 295) .none),#[]⟩) ::
 (nat_lit 300,⟨(.type "code"),none,(.fields #[(.str "_law_plan" 596),(.str "_law_plan" 597),(.str "/claim/cut.py" 598),(.int 176 0),(.int 2 0),(.int 0 0),(.int 0 0),(.int 3 0),(.ref 297),(.bool true),(.int 181 0),(.ref 298),.none,.none,.none,(.ref 299),(.int 599 0),(.int 176 0),(.str "/claim/cut.py" 600)]),#[]⟩) ::
 (nat_lit 301,⟨(.type "function"),none,.func (fnOf "_law_plan" "_law_plan" (defArgs (top 50)) (defBody (top 50)) (defScope (top 50)) .none .none .none (.str "law_lotdraw_k34_odds_refused" 563) none (.ref 300) .none),#[]⟩) ::
 (nat_lit 312,⟨(.type "code"),none,(.fields #[(.str "_law_ends" 609),(.str "_law_ends" 610),(.str "/claim/cut.py" 611),(.int 198 0),(.int 1 0),(.int 0 0),(.int 0 0),(.int 3 0),(.ref 309),(.bool true),(.int 181 0),(.ref 310),.none,.none,.none,(.ref 311),(.int 612 0),(.int 198 0),(.str "/claim/cut.py" 613)]),#[]⟩) ::
 (nat_lit 313,⟨(.type "function"),none,.func (fnOf "_law_ends" "_law_ends" (defArgs (top 52)) (defBody (top 52)) (defScope (top 52)) .none .none .none (.str "law_lotdraw_k34_odds_refused" 563) none (.ref 312) .none),#[]⟩) ::
 (nat_lit 326,⟨(.type "code"),none,(.fields #[(.str "_law_word" 628),(.str "_law_word" 629),(.str "/claim/cut.py" 630),(.int 215 0),(.int 1 0),(.int 0 0),(.int 0 0),(.int 3 0),(.ref 321),(.bool true),(.int 181 0),(.ref 322),.none,(.ref 323),(.ref 324),(.ref 325),(.int 633 0),(.int 215 0),(.str "/claim/cut.py" 634)]),#[]⟩) ::
 (nat_lit 327,⟨(.type "function"),none,.func (fnOf "_law_word" "_law_word" (defArgs (top 54)) (defBody (top 54)) (defScope (top 54)) .none .none .none (.str "law_lotdraw_k34_odds_refused" 563) none (.ref 326) .none),#[]⟩) ::
 (nat_lit 333,⟨(.type "code"),none,(.fields #[(.str "_law_answer" 636),(.str "_law_answer" 637),(.str "/claim/cut.py" 638),(.int 226 0),(.int 5 0),(.int 0 0),(.int 0 0),(.int 3 0),(.ref 328),(.bool true),(.int 181 0),(.ref 329),.none,(.ref 330),(.ref 331),(.ref 332),(.int 646 0),(.int 226 0),(.str "/claim/cut.py" 647)]),#[]⟩) ::
 (nat_lit 334,⟨(.type "function"),none,.func (fnOf "_law_answer" "_law_answer" (defArgs (top 55)) (defBody (top 55)) (defScope (top 55)) .none .none .none (.str "law_lotdraw_k34_odds_refused" 563) none (.ref 333) .none),#[]⟩) ::
 (nat_lit 340,⟨(.type "code"),none,(.fields #[(.str "_law_lot" 649),(.str "_law_lot" 650),(.str "/claim/cut.py" 651),(.int 241 0),(.int 2 0),(.int 0 0),(.int 0 0),(.int 3 0),(.ref 335),(.bool true),(.int 181 0),(.ref 336),.none,(.ref 337),(.ref 338),(.ref 339),(.int 658 0),(.int 241 0),(.str "/claim/cut.py" 659)]),#[]⟩) ::
 (nat_lit 341,⟨(.type "function"),none,.func (fnOf "_law_lot" "_law_lot" (defArgs (top 56)) (defBody (top 56)) (defScope (top 56)) .none .none .none (.str "law_lotdraw_k34_odds_refused" 563) none (.ref 340) .none),#[]⟩) ::
 (nat_lit 347,⟨(.type "code"),none,(.fields #[(.str "_law_count" 661),(.str "_law_count" 662),(.str "/claim/cut.py" 663),(.int 257 0),(.int 2 0),(.int 0 0),(.int 0 0),(.int 3 0),(.ref 342),(.bool true),(.int 181 0),(.ref 343),.none,(.ref 344),(.ref 345),(.ref 346),(.int 671 0),(.int 257 0),(.str "/claim/cut.py" 672)]),#[]⟩) ::
 (nat_lit 348,⟨(.type "function"),none,.func (fnOf "_law_count" "_law_count" (defArgs (top 57)) (defBody (top 57)) (defScope (top 57)) .none .none .none (.str "law_lotdraw_k34_odds_refused" 563) none (.ref 347) .none),#[]⟩) ::
 (nat_lit 354,⟨(.type "code"),none,(.fields #[(.str "_law_due" 674),(.str "_law_due" 675),(.str "/claim/cut.py" 676),(.int 268 0),(.int 5 0),(.int 0 0),(.int 0 0),(.int 3 0),(.ref 349),(.bool true),(.int 181 0),(.ref 350),.none,(.ref 351),(.ref 352),(.ref 353),(.int 683 0),(.int 268 0),(.str "/claim/cut.py" 684)]),#[]⟩) ::
 (nat_lit 355,⟨(.type "function"),none,.func (fnOf "_law_due" "_law_due" (defArgs (top 58)) (defBody (top 58)) (defScope (top 58)) .none .none .none (.str "law_lotdraw_k34_odds_refused" 563) none (.ref 354) .none),#[]⟩) ::
 (nat_lit 359,⟨(.type "code"),none,(.fields #[(.str "law" 686),(.str "law" 687),(.str "/claim/cut.py" 688),(.int 275 0),(.int 1 0),(.int 0 0),(.int 0 0),(.int 3 0),(.ref 356),(.bool true),(.int 181 0),(.ref 357),.none,.none,.none,(.ref 358),(.int 689 0),(.int 275 0),(.str "/claim/cut.py" 690)]),#[]⟩) ::
 (nat_lit 360,⟨(.type "function"),none,.func (fnOf "law" "law" (defArgs (top 59)) (defBody (top 59)) (defScope (top 59)) .none .none .none (.str "law_lotdraw_k34_odds_refused" 563) none (.ref 359) .none),#[]⟩) ::
 []
noncomputable def hpA:List Addr:=[2,3,23,24,25,36,37,48,49,60,61,72,73,84,85,96,97,105,106,112,113,119,120,126,127,133,134,138,139,143,144,148,149,155,156,160,161,167,168,169,173,174,180,181,187,188,194,195,199,200,206,207,213,214,220,221,225,226,232,233,239,240,246,247,253,254,260,261,267,268,274,275,281,282,288,289,295,296,300,301,312,313,326,327,333,334,340,341,347,348,354,355,359,360]
end MyLaw
namespace MyLaw
open PySem PySem.W L2
set_option maxHeartbeats 0
theorem zos (P:Params):hpA=(hpK P).map (·.1):=by kernel_rfl
theorem zoq (w:World) (os:OsState):(Hd.runT treeTable PySem.Challenge.pw_lotdraw_k34_odds_refused w 11 (some (.ref 6)) 5742 (Hd.bootS w os) (topStub PySem.Challenge.pw_lotdraw_k34_odds_refused)).map (fun s=>((staticsOk (importedModules PySem.Challenge.pw_lotdraw_k34_odds_refused.main.body) (boot_heap w.params) s.abs.heap && namesBound PySem.Challenge.pw_lotdraw_k34_odds_refused s.abs.heap && gensDone s.abs && laidKept (boot_heap w.params) s.abs.heap),hpA.map s.abs.heap.get?))=some (true,(hpK w.params).map fun p=>some p.2):=by kernel_rfl
noncomputable abbrev hpX:Shared->Bool:=fun s=>xlAt viewP [] s && recOk (RowW.records (OpenRow.toRowW (OpenLaw.row PySem.Challenge.rw_lotdraw_k34_odds_refused))) s
theorem zoJ (w:World) (os:OsState):(Hd.runT treeTable PySem.Challenge.pw_lotdraw_k34_odds_refused w 11 (some (.ref 6)) 5742 (Hd.bootS w os) (topStub PySem.Challenge.pw_lotdraw_k34_odds_refused)).map (fun s=>openSeen viewP [] (importedModules PySem.Challenge.pw_lotdraw_k34_odds_refused.main.body) hpX true s.abs)=some (openGood viewP []):=by kernel_rfl
end MyLaw
set_option maxHeartbeats 4000000
namespace L2
open PySem PySem.Spec PyProof.Rows
noncomputable abbrev Key:=Sum Int Str
noncomputable def keyIs:Key->Value->Bool
 | .inl k,v=>Value.isInt k v
 | .inr x,v=>Value.isStrOf x v
noncomputable def keyH (w:World):Key->Int
 | .inl k=>hashInt k
 | .inr x=>hashStr w x
theorem zat:∀ {k:Key} {v:Value},keyIs k v=true->(∃ i t,k=Sum.inl i /\ v=Value.int i t) \/ (∃ x t,k=Sum.inr x /\ v=Value.str x t)
 | .inl i,v,h=>by
   obtain ⟨t,e⟩:=Value.isInt_shape (k:=i) (v:=v) h
   exact .inl ⟨i,t,rfl,e⟩
 | .inr x,v,h=>by
   obtain ⟨t,e⟩:=Value.isStrOf_shape (x:=x) (v:=v) h
   exact .inr ⟨x,t,rfl,e⟩
theorem zkZ (i:Int) (t:Tok):keyIs (.inl i) (.int i t)=true:=by simp [keyIs,Value.isInt]
theorem zlj (x:Str) (t:Tok):keyIs (.inr x) (.str x t)=true:=by simp [keyIs,Value.isStrOf]
theorem zpn (a b:Int):decide ((Sum.inl a:Key)=Sum.inl b)=(a == b):=by
 by_cases e:a=b
 ·subst e; simp
 ·have h:¬ (Sum.inl a:Key)=Sum.inl b:=fun q=>e (Sum.inl.inj q)
  rw [decide_eq_false h]
  exact (beq_eq_false_iff_ne.mpr e).symm
theorem zpG (a b:Str):decide ((Sum.inr a:Key)=Sum.inr b)=decide (a=b):=by
 by_cases e:a=b
 ·subst e; simp
 ·have h:¬ (Sum.inr a:Key)=Sum.inr b:=fun q=>e (Sum.inr.inj q)
  rw [decide_eq_false h,decide_eq_false e]
theorem zqx (a:Int) (b:Str):decide ((Sum.inl a:Key)=Sum.inr b)=false:=decide_eq_false (fun q=>nomatch q)
theorem zqa (a:Str) (b:Int):decide ((Sum.inr a:Key)=Sum.inl b)=false:=decide_eq_false (fun q=>nomatch q)
noncomputable def mixKind (prog:Program) (w:World):PySem.KeyKind prog w Key where
 is:=keyIs
 hash:=keyH w
 inj:=fun v a b ha hb=>by
  rcases zat ha with ⟨i,t,rfl,rfl⟩ | ⟨x,t,rfl,rfl⟩
  ·rcases zat hb with ⟨j,u,rfl,e⟩ | ⟨y,u,rfl,e⟩
   ·injection e with e1 _; rw [e1]
   ·exact nomatch e
  ·rcases zat hb with ⟨j,u,rfl,e⟩ | ⟨y,u,rfl,e⟩
   ·exact nomatch e
   ·injection e with e1 _; rw [e1]
 byValue:=fun k v h=>by
  rcases zat h with ⟨i,t,rfl,rfl⟩ | ⟨x,t,rfl,rfl⟩ <;> rfl
 pyHash:=fun hv h=>by
  rcases zat hv with ⟨i,t,rfl,rfl⟩ | ⟨x,t,rfl,rfl⟩
  ·exact wpAny_pyHash_int h
  ·exact wpAny_pyHash_str h
 eqBool:=fun hu hv h=>by
  rcases zat hu with ⟨i,t,rfl,rfl⟩ | ⟨x,t,rfl,rfl⟩
  ·rcases zat hv with ⟨j,u,rfl,rfl⟩ | ⟨y,u,rfl,rfl⟩
   ·rw [zpn] at h; exact wpAny_eqBool_int h
   ·rw [zqx] at h; exact SeqAt.EqAt.int_str i t y u _ _ _ _ h
  ·rcases zat hv with ⟨j,u,rfl,rfl⟩ | ⟨y,u,rfl,rfl⟩
   ·rw [zqa] at h; exact SeqAt.EqAt.str_int x t j u _ _ _ _ h
   ·rw [zpG] at h; exact wpAny_eqBool_str h
 «strs»:=fun k x t v h=>by
  rcases zat h with ⟨i,u,rfl,e⟩ | ⟨y,u,rfl,e⟩
  ·exact nomatch e
  ·injection e with e1 _
   subst e1
   cases v <;> rfl
theorem zhI (prog:Program) (w:World) (i:Int) (t:Tok):(mixKind prog w).is (.inl i) (.int i t)=true:=zkZ i t
theorem zhZ (prog:Program) (w:World) (x:Str) (t:Tok):(mixKind prog w).is (.inr x) (.str x t)=true:=zlj x t
end L2
namespace L2
open PySem PySem.Spec PyProof.Rows
inductive V where
 | non | bl (b:Bool) | int (i:Int) | str (x:Str) | byt (b:Array UInt8) | flt (b:UInt64) | ref (a:Addr) | ty (n:String)
 deriving DecidableEq
noncomputable def RelV:V->Value->Prop
 | .non,u=>u=Value.none
 | .bl b,u=>u=Value.bool b
 | .int i,u=>∃ t,u=Value.int i t
 | .str x,u=>∃ t,u=Value.str x t
 | .byt b,u=>∃ t,u=Value.bytes b t
 | .flt b,u=>∃ t,u=Value.float b t
 | .ref a,u=>u=Value.ref a
 | .ty n,u=>u=Value.type n
noncomputable abbrev Vals:List V->List Value->Prop:=Paired RelV
theorem Vals.length {xs:List V} {us:List Value} (r:Vals xs us):xs.length=us.length:=Paired.length r
theorem Vals.get:∀ {xs:List V} {us:List Value} {i:Nat} {x:V},Vals xs us->xs[i]?=some x->∃ u,us[i]?=some u /\ RelV x u
 | _,_,_,_,.nil,e=>by simp at e
 | _,_,0,_,.cons r _,e=>by simp at e; subst e; exact ⟨_,rfl,r⟩
 | _,_,i + 1,x,.cons _ t,e=>by
   obtain ⟨u,h1,h2⟩:=Vals.get (i:=i) (x:=x) t (by simpa using e)
   exact ⟨u,by simpa using h1,h2⟩
theorem Vals.set {x:V} {u:Value} (r:RelV x u):∀ {xs:List V} {us:List Value} (i:Nat),Vals xs us->Vals (xs.set i x) (us.set i u)
 | _,_,_,.nil=>.nil
 | _,_,0,.cons _ t=>.cons r t
 | _,_,i + 1,.cons q t=>.cons q (Vals.set r i t)
theorem Vals.append:∀ {xs ys:List V} {us ws:List Value},Vals xs us->Vals ys ws->Vals (xs ++ ys) (us ++ ws)
 | _,_,_,_,.nil,s=>s
 | _,_,_,_,.cons r t,s=>.cons r (Vals.append t s)
theorem Vals.take:∀ {xs:List V} {us:List Value} (n:Nat),Vals xs us->Vals (xs.take n) (us.take n)
 | _,_,0,_=>.nil
 | _,_,_ + 1,.nil=>.nil
 | _,_,n + 1,.cons r t=>.cons r (Vals.take n t)
theorem Vals.drop:∀ {xs:List V} {us:List Value} (n:Nat),Vals xs us->Vals (xs.drop n) (us.drop n)
 | _,_,0,r=>r
 | _,_,_ + 1,.nil=>.nil
 | _,_,n + 1,.cons _ t=>Vals.drop n t
noncomputable def RelO:Option V->Option Value->Prop
 | some v,some u=>RelV v u
 | none,none=>True
 | _,_=>False
noncomputable def KV {κ:Type}:List (κ×V)->List (κ×Value)->Prop:=Paired fun (p:κ×V) (q:κ×Value)=>p.1=q.1 /\ RelV p.2 q.2
noncomputable def kV:Key->V
 | .inl i=>.int i
 | .inr x=>.str x
inductive HO where
  | lst (xs:List V)
  | tup (xs:List V)
  | dK (kvs:List (Key×V)) | dT (kvs:List (List Key×V))
  | set (S:Int->Bool) (n:Nat)
  | ins (C dx:Addr) (fs:List (Str×V))
  | own (x:Addr)
  | xd (fs:List (Str×V))
  | met (f x:Addr)
  | rng (lo hi:Int)
  | frz (o:Obj) (u:HO)
  | tbl (ps:Array Value)
  | ext (φ:Heap->Prop)
noncomputable abbrev Hp:=Addr->Option HO
noncomputable def upd (H:Hp) (a:Addr) (o:HO):Hp:=fun b=>if b=a then some o else H b
theorem z8 {H:Hp} {a:Addr} {o:HO}:upd H a o a=some o:=by unfold upd; rw [if_pos rfl]
theorem zH {H:Hp} {a b:Addr} {o:HO} (h:b≠a):upd H a o b=H b:=by unfold upd; rw [if_neg h]
theorem zU {H:Hp} {a b:Addr} {o:HO} (h:H a=some o) (h':H b=none):a≠b:=by
 intro e; subst e; rw [h] at h'; cases h'
noncomputable def TupT (H:Hp) (b:Addr) (xs:List V):Prop:=H b=some (.tup xs) \/ ∃ ob,H b=some (.frz ob (.tup xs))
theorem TupT.ne {H:Hp} {a b:Addr} {o:HO} {xs:List V} (t:TupT H b xs) (n:b≠a):TupT (upd H a o) b xs:=by
 rcases t with t | ⟨ob,t⟩
 ·exact .inl (by rw [zH n]; exact t)
 ·exact .inr ⟨ob,by rw [zH n]; exact t⟩
theorem TupT.new {H:Hp} {a b:Addr} {o:HO} {xs:List V} (t:TupT H b xs) (n:H a=none):TupT (upd H a o) b xs:=t.ne fun z=>by
 subst z
 rcases t with t | ⟨ob,t⟩ <;> rw [n] at t <;> cases t
theorem TupT.dT {H:Hp} {a b:Addr} {o:HO} {xs:List V} {kvs:List (List Key×V)} (t:TupT H b xs) (e:H a=some (.dT kvs)):TupT (upd H a o) b xs:=t.ne fun z=>by
 subst z
 rcases t with t | ⟨ob,t⟩ <;> rw [e] at t <;> cases t
section
variable (P:Program) (w:World)
noncomputable def ObjOk (H:Hp) (h:Heap) (a:Addr):HO->Prop
 | .lst xs=>xs.length<=sizeLine /\ ∃ (its:List Value) (n:Nat),Vals xs its /\ h.get? a=some { cls:=.type "list",data:=.seq its.toArray n }
 | .tup xs=>xs.length<=sizeLine /\ ∃ its:List Value,Vals xs its /\ IsTup h a its.toArray
 | .dK kvs=>kvs.length<=sizeLine /\ (a == sysModules)=false /\ ∃ vs,KV kvs vs /\ h.DictOf (mixKind P w) a vs
 | .dT kvs=>kvs.length<=sizeLine /\ (a == sysModules)=false /\ ∃ xs:List (List Key×Addr×Value),
   Paired (fun (p:List Key×V) (q:List Key×Addr×Value)=>p.1=q.1 /\ TupT H q.2.1 (p.1.map kV) /\ RelV p.2 q.2.2) kvs xs /\
   ∃ o es ep,h.get? a=some o /\ o.ExactDict /\ o.data=.dict es ep /\ es.toList=xs.map (entryOfKey (tupleKind (mixKind P w))) /\ (xs.map (·.1)).Nodup
 | .set S n=>h.SetOf (intKind P w) a S n
 | .ins C dx fs=>H dx=some (.own a) /\ fs.length<=1000 /\ dx≠a /\ h.get? a=some (PySem.W.instObj C dx) /\
   ∃ mA,h.Ns1 dx mA /\ (∀ f,RelO (fs.lookup f) (mA f)) /\ PySem.Within mA (fs.map (·.1))
 | .own _=>∃ o,h.get? a=some o
 | .xd fs=>∃ mA,h.Ns1 a mA /\ ∀ f,RelO (fs.lookup f) (mA f)
 | .rng lo hi=>∃ t u v,h.get? a=some { cls:=.type "range",data:=.fields #[.int lo t,.int hi u,.int 1 v] }
 | .frz o u=>h.get? a=some o /\ ObjOk H h a u
 | .tbl ps=>h.get? a=some { cls:=.none,data:=.fields ps }
 | .met f x=>h.get? a=some (PySem.W.methodObj (.ref f) (.ref x))
 | .ext φ=>φ h /\ (∃ o,h.get? a=some o) /\ ∀ h1 h2:Heap,φ h1->(∀ o,h1.get? a=some o->h2.get? a=some o)->φ h2
noncomputable def HOk (H:Hp) (h:Heap):Prop:=∀ a o,H a=some o->ObjOk P w H h a o
end
section
variable {P:Program} {w:World} {H H':Hp} {h h':Heap} {a:Addr} {o:HO}
theorem ObjOk.lt (x:ObjOk P w H h a o):a < h.objs.size:=by
 cases o with
 | lst xs=>obtain ⟨_,_,_,_,e⟩:=x; exact Heap.lt_size e
 | tup xs=>obtain ⟨_,_,_,p⟩:=x; exact p.lt
 | dK kvs=>obtain ⟨_,_,_,_,o,_,_,e,_⟩:=x; exact Heap.lt_size e
 | dT kvs=>obtain ⟨_,_,_,_,o,_,_,e,_⟩:=x; exact Heap.lt_size e
 | set S n=>obtain ⟨o,_,_,_,e,_⟩:=x; exact Heap.lt_size e
 | ins C dx fs=>obtain ⟨_,_,_,e,_⟩:=x; exact Heap.lt_size e
 | own y=>obtain ⟨_,e⟩:=x; exact Heap.lt_size e
 | xd fs=>obtain ⟨_,⟨_,_,_,e,_⟩,_⟩:=x; exact Heap.lt_size e
 | rng lo hi=>obtain ⟨_,_,_,e⟩:=x; exact Heap.lt_size e
 | frz ob u=>obtain ⟨e,_⟩:=x; exact Heap.lt_size e
 | tbl ps=>exact Heap.lt_size (show h.get? a=some _ from x)
 | met f y=>exact Heap.lt_size (show h.get? a=some _ from x)
 | ext φ=>obtain ⟨_,⟨_,e⟩,_⟩:=x; exact Heap.lt_size e
theorem Paired.mapP {α β:Type} {F G:α->β->Prop}:∀ {l₁:List α} {l₂:List β},Paired F l₁ l₂->(∀ a b,F a b->G a b)->Paired G l₁ l₂
 | _,_,.nil,_=>.nil
 | _,_,.cons r t,f=>.cons (f _ _ r) (Paired.mapP t f)
theorem ObjOk.stay (x:ObjOk P w H h a o) (k:∀ b u,(b=a \/ H b=some (.own a))->h.get? b=some u->h'.get? b=some u)
  (ho:∀ b,H b=some (.own a)->H' b=some (.own a)) (ht:∀ b xs,TupT H b xs->TupT H' b xs):ObjOk P w H' h' a o:=by
 induction o with
 | lst xs=>obtain ⟨z,its,n,r,e⟩:=x; exact ⟨z,its,n,r,k _ _ (.inl rfl) e⟩
 | tup xs=>obtain ⟨z,its,r,ob,e,c⟩:=x; exact ⟨z,its,r,ob,k _ _ (.inl rfl) e,c⟩
 | dK kvs=>obtain ⟨z,y,vs,r,ob,es,ep,e,c⟩:=x; exact ⟨z,y,vs,r,ob,es,ep,k _ _ (.inl rfl) e,c⟩
 | dT kvs=>
   obtain ⟨z,y,xs,r,ob,es,ep,e,c⟩:=x
   exact ⟨z,y,xs,Paired.mapP r fun p q z=>⟨z.1,ht _ _ z.2.1,z.2.2⟩,ob,es,ep,k _ _ (.inl rfl) e,c⟩
 | set S n=>obtain ⟨ob,es,ep,t,e,c⟩:=x; exact ⟨ob,es,ep,t,k _ _ (.inl rfl) e,c⟩
 | ins C dx fs=>
   obtain ⟨d,z,ne,e,mA,⟨od,es,ep,e2,c⟩,r⟩:=x
   exact ⟨ho _ d,z,ne,k _ _ (.inl rfl) e,mA,⟨od,es,ep,k _ _ (.inr d) e2,c⟩,r⟩
 | own y=>obtain ⟨ob,e⟩:=x; exact ⟨ob,k _ _ (.inl rfl) e⟩
 | xd fs=>obtain ⟨mA,⟨od,es,ep,e,c⟩,r⟩:=x; exact ⟨mA,⟨od,es,ep,k _ _ (.inl rfl) e,c⟩,r⟩
 | rng lo hi=>obtain ⟨t,u,v,e⟩:=x; exact ⟨t,u,v,k _ _ (.inl rfl) e⟩
 | frz ob u ih=>obtain ⟨e,q⟩:=x; exact ⟨k _ _ (.inl rfl) e,ih q⟩
 | tbl ps=>
   have e:h.get? a=some { cls:=.none,data:=.fields ps }:=x
   show h'.get? a=some { cls:=.none,data:=.fields ps }
   exact k a _ (.inl rfl) e
 | met f y=>
   have e:h.get? a=some (PySem.W.methodObj (.ref f) (.ref y)):=x
   show h'.get? a=some (PySem.W.methodObj (.ref f) (.ref y))
   exact k a _ (.inl rfl) e
 | ext φ=>obtain ⟨p,⟨o,e⟩,st⟩:=x; exact ⟨st _ _ p fun o q=>k _ _ (.inl rfl) q,⟨o,k _ _ (.inl rfl) e⟩,st⟩
theorem HOk.lt (x:HOk P w H h) (e:H a=some o):a < h.objs.size:=(x a o e).lt
theorem HOk.fresh (x:HOk P w H h) (e:h.objs.size<=a):H a=none:=by
 cases q:H a with
 | none=>rfl
 | some u=>exact absurd (Nat.lt_of_lt_of_le (x.lt q) e) (Nat.lt_irrefl _)
theorem HOk.kept (x:HOk P w H h) (k:∀ b u,h.get? b=some u->h'.get? b=some u):HOk P w H h':=fun a o e=>
 (x a o e).stay (fun b u _ q=>k b u q) (fun _ q=>q) fun _ _ q=>q
theorem HOk.laid (x:HOk P w H h) (k:∀ b u,h.get? b=some u->h'.get? b=some u) (hp:h.objs.size<=a) (new:ObjOk P w (upd H a o) h' a o):HOk P w (upd H a o) h':=fun b u e=>by
 have hn:=x.fresh hp
 by_cases hb:b=a
 ·subst hb; rw [z8] at e; cases e; exact new
 ·rw [zH hb] at e
  exact (x b u e).stay (fun c v _ q=>k c v q) (fun c q=>by rw [zH (zU q hn)]; exact q) fun c xs q=>q.new hn
end
noncomputable def Rd (H:Hp) (a:Addr) (u:HO):Prop:=H a=some u \/ ∃ o,H a=some (.frz o u)
theorem Rd.ok {P:Program} {w:World} {H:Hp} {h:Heap} {a:Addr} {u:HO} (r:Rd H a u) (x:HOk P w H h):ObjOk P w H h a u:=by
 rcases r with r | ⟨o,r⟩
 ·exact x a u r
 ·obtain ⟨_,q⟩:=x a _ r
  exact q
noncomputable def Mut:Option HO->Prop
 | some (.lst _)=>True
 | some (.dK _)=>True
 | some (.dT _)=>True
 | some (.set _ _)=>True
 | some (.ins _ _ _)=>True
 | some (.ext _)=>True
 | _=>False
section
variable {P:Program} {w:World} {H:Hp} {h h':Heap} {x e:Addr} {o':HO}
theorem HOk.write (ok:HOk P w H h) (mu:Mut (H x)) (he:e=x \/ H e=some (.own x)) (k:∀ b u,b≠e->h.get? b=some u->h'.get? b=some u) (heo:∃ u,h'.get? e=some u)
  (new:ObjOk P w (upd H x o') h' x o'):HOk P w (upd H x o') h':=fun b u q=>by
 have nown:∀ c y,H c=some (.own y)->c≠x:=fun c y r z=>by subst z; rw [r] at mu; exact mu
 have ntup:∀ c xs,H c=some (.tup xs)->c≠x:=fun c xs r z=>by subst z; rw [r] at mu; exact mu
 by_cases hb:b=x
 ·subst hb; rw [z8] at q; cases q; exact new
 ·rw [zH hb] at q
  by_cases hbe:b=e
  ·have q':H b=some (.own x):=by
    rcases he with z | z
    ·exact absurd (hbe.trans z) hb
    ·rw [hbe]; exact z
   rw [q] at q'; cases q'
   obtain ⟨v,hv⟩:=heo
   exact ⟨v,by rw [hbe]; exact hv⟩
  ·refine (ok b u q).stay (fun c v hc r=>k c v ?_ r) (fun c r=>by rw [zH (nown c b r)]; exact r) fun c xs r=>r.ne fun z=>by
    subst z
    rcases r with r | ⟨ob,r⟩ <;> rw [r] at mu <;> exact mu
   rcases hc with rfl | hc
   ·exact hbe
   ·rintro rfl
    rcases he with z | z
    ·exact nown c b hc z
    ·rw [hc] at z; cases z; exact hb rfl
end
structure Un (fs ex:List Addr) (H H':Hp) (h h':Heap):Prop where
 keep:∀ b o,h.get? b=some o->H b=none->b∉fs->b∉ex->h'.get? b=some o
 slot:∀ b o,h.get? b=some o->H b=none->b∈fs->b∉ex->∃ sl,h'.get? b=some { o with slots:=sl }
 free:∀ b o,h.get? b=some o->H b=none->b∉ex->H' b=none
 there:∀ b o,h.get? b=some o->b∉ex->∃ o',h'.get? b=some o'
 tups:∀ b xs,H b=some (.tup xs)->H' b=some (.tup xs)
 frzs:∀ b o u,H b=some (.frz o u)->H' b=some (.frz o u)
 tbls:∀ b ps,H b=some (.tbl ps)->∃ more,H' b=some (.tbl (ps ++ more))
section
variable {fs fs' ex ex':List Addr} {H H1 H2:Hp} {h h1 h2 h':Heap} {a x e:Addr} {o:HO}
theorem Un.any (u:Un fs ex H H1 h h1) {b:Addr} {ob:Obj} (q:h.get? b=some ob) (n:H b=none) (hx:b∉ex):∃ sl,h1.get? b=some { ob with slots:=sl }:=by
 by_cases hb:b∈fs
 ·exact u.slot b ob q n hb hx
 ·exact ⟨ob.slots,u.keep b ob q n hb hx⟩
theorem Un.kept (k:∀ b u,h.get? b=some u->h'.get? b=some u):Un fs ex H H h h':=
 ⟨fun b ob q _ _ _=>k b ob q,fun b ob q _ _ _=>⟨ob.slots,k b ob q⟩,fun _ _ _ n _=>n,fun b ob q _=>⟨ob,k b ob q⟩,fun _ _ q=>q,fun _ _ _ q=>q,fun _ ps q=>⟨#[],by rw [q]; simp⟩⟩
theorem Un.refl:Un fs ex H H h h:=Un.kept fun _ _ q=>q
theorem Un.laid (k:∀ b u,h.get? b=some u->h'.get? b=some u) (hp:h.objs.size<=a) (hn:H a=none):Un fs ex H (upd H a o) h h' where
 keep:=fun b u q _ _ _=>k b u q
 slot:=fun b u q _ _ _=>⟨u.slots,k b u q⟩
 free:=fun b u q n _=>by rw [zH (Nat.ne_of_lt (Nat.lt_of_lt_of_le (Heap.lt_size q) hp))]; exact n
 there:=fun b u q _=>⟨u,k b u q⟩
 tups:=fun b xs q=>by rw [zH (zU q hn)]; exact q
 frzs:=fun b u xs q=>by rw [zH (zU q hn)]; exact q
 tbls:=fun b ps q=>⟨#[],by rw [zH (zU q hn),q]; simp⟩
theorem Un.write (mu:Mut (H x)) (he:e=x \/ H e=some (.own x)) (k:∀ b u,b≠e->h.get? b=some u->h'.get? b=some u) (heo:∃ u,h'.get? e=some u):Un fs ex H (upd H x o) h h':=by
 have hx:∀ b,H b=none->b≠x:=fun b n z=>by subst z; rw [n] at mu; exact mu
 have hb:∀ b,H b=none->b≠e:=fun b n z=>by
  subst z
  rcases he with r | r
  ·exact hx b n r
  ·rw [n] at r; cases r
 have hm:∀ b u,H b=some u->¬ Mut (some u)->b≠x:=fun b u q nm z=>by subst z; rw [q] at mu; exact nm mu
 refine ⟨fun b u q n _ _=>k b u (hb b n) q,fun b u q n _ _=>⟨u.slots,k b u (hb b n) q⟩,fun b u q n _=>by rw [zH (hx b n)]; exact n,fun b u q _=>?_,
  fun b xs q=>by rw [zH (hm b _ q fun z=>z)]; exact q,fun b u xs q=>by rw [zH (hm b _ q fun z=>z)]; exact q,fun b ps q=>⟨#[],by rw [zH (hm b _ q fun z=>z),q]; simp⟩⟩
 by_cases hbe:b=e
 ·subst hbe; exact heo
 ·exact ⟨u,k b u hbe q⟩
end
noncomputable def trk (h:Heap) (H:Hp):List Addr:=(List.range h.objs.size).filter fun a=>(H a).isSome
noncomputable def hidT (h:Heap) (H:Hp):Heap:=PySem.W.hideAll h (trk h H)
theorem zk8 (h:Heap) (H:Hp):(hidT h H).objs.size=h.objs.size:=PySem.W.hideAll_size _ _
theorem znh {h:Heap} {H:Hp} {b:Addr} {o:Obj} (e:h.get? b=some o) (n:H b=none):(hidT h H).get? b=some o:=
 PySem.W.hideAll_get _ e fun hm=>by
  have q:(H b).isSome=true:=(List.mem_filter.mp hm).2
  rw [n] at q; simp at q
theorem zoI {h:Heap} {H:Hp} {b:Addr} {o:Obj} (e:(hidT h H).get? b=some o):h.get? b=some o /\ H b=none:=by
 have e':h.get? b=some o:=PySem.W.of_hideAll (trk h H) e
 refine ⟨e',?_⟩
 cases q:H b with
 | none=>rfl
 | some x=>
   have hm:b∈trk h H:=List.mem_filter.mpr ⟨List.mem_range.mpr (Heap.lt_size e'),by simp [q]⟩
   have z:(hidT h H).get? b=none:=PySem.W.hideAll_none (trk h H) hm
   rw [z] at e; cases e
noncomputable def allNews (g h:Heap) (L:Addr):List (Addr×Obj):=(List.range h.objs.size).filterMap fun a=>if a=L \/ (g.get? a).isSome=true then none else (h.get? a).map fun o=>(a,o)
noncomputable def rest (g h:Heap) (L d:Addr):List (Addr×Obj):=(allNews g h L).filter fun p=>decide (p.1≠d)
end L2
namespace L2
open PySem PySem.Spec PyProof.Rows
structure Mod (K:PySem.W.Frag) (mg:Str->Option Value) (base:Heap):Prop where
 kin:K.In base
 glob:base.Ns mainGlobals mg
 blt:∃ mb,base.Ns builtinsNs mb /\ ∀ x:Str,x≠"__name__"->mb x=bootBuiltins x
 nolimit:base.NoLimit
structure Cx where
 prog:Program
 w:World
 K:PySem.W.Frag
 mg:Str->Option Value
 base:Heap
 A:Around
 N:List Str
 s₀:Shared
 H₀:Hp
 env:Env
 outer:List Env
 stack:List Env
 ex:List Addr
 fn:Str->Bool
 calm:Bool
 pn:List (Addr×Obj)
 xe:Value->Shared->Prop
noncomputable def frs (l:List Env):List Addr:=l.filterMap (·.frame)
noncomputable abbrev Cx.fs (X:Cx):List Addr:=frs X.outer
noncomputable def Vis (sc:Scope) (x:Str):Prop:=sc.names.lookup x=some .local \/ sc.names.lookup x=some .cell \/ sc.names.lookup x=some .free
noncomputable def Loc (sc:Scope) (x:Str):Prop:=sc.names.lookup x=some .local \/ sc.names.lookup x=some .cell
noncomputable def Look (env:Env) (h:Heap) (m:Str->Option Value) (x:Str) (u:Value):Prop:=
 (env.kindOf x=some .local /\ m x=some u) \/ ((env.kindOf x=some .cell \/ env.kindOf x=some .free) /\ ∃ c,env.cells.lookup x=some c /\ h.IsCell c (some u))
structure Cx.Ok (X:Cx):Prop where
 mod:Mod X.K X.mg X.base
 kind:X.env.scope.kind=.function
 glob:X.env.globals=mainGlobals
 blt:X.env.builtins=builtinsNs
 above:X.s₀.heap.objs.size<=X.env.locals
 inj:∀ x y c,X.env.cells.lookup x=some c->X.env.cells.lookup y=some c->x=y
 has:∀ x,(X.env.kindOf x=some .cell \/ X.env.kindOf x=some .free)->∃ c,X.env.cells.lookup x=some c
 cab:∀ x c,X.fn x=true->X.env.cells.lookup x=some c->X.s₀.heap.objs.size<=c
 hd:X.calm=true->X.A.handled=none
 frames:X.A.frames=some X.stack
 stk:X.stack=X.outer \/ (X.stack=X.env :: X.outer /\ X.env.frame=some X.env.locals)
 exf:∀ b∈X.ex,b≠X.env.locals /\ ∀ x c,X.env.cells.lookup x=some c->c≠b
 bs:∀ b o,X.base.get? b=some o->X.s₀.heap.get? b=some o /\ X.H₀ b=none
 bsz:X.base.objs.size<=X.s₀.heap.objs.size
 noex:∀ b o,X.base.get? b=some o->b∉X.ex
 exfs:∀ b∈X.ex,b∉X.fs
 funs:X.s₀.heap.FunFrames X.base X.outer
 frf:∀ b∈X.fs,X.H₀ b=none
structure Inv (X:Cx) (pins:List (Addr×Obj)) (σ:List (Option V)) (H:Hp) (s:Shared):Prop where
 ok:X.Ok
 os:s.os=X.s₀.os
 bare:AllBare s.gens
 base:Un X.fs X.ex X.H₀ H X.s₀.heap s.heap
 loc:∃ m,s.heap.Ns X.env.locals m /\ ∀ (i:Nat) (x:Str) (v:V),X.N[i]?=some x->σ[i]?=some (some v)->Vis X.env.scope x->∃ u,RelV v u /\ Look X.env s.heap m x u
 cell:∀ x c,X.env.cells.lookup x=some c->∃ v,s.heap.IsCell c v
 free:H X.env.locals=none
 freeC:∀ x c,X.env.cells.lookup x=some c->H c=none
 pin:∀ p∈X.pn ++ pins,s.heap.get? p.1=some p.2 /\ H p.1=none /\ p.1≠X.env.locals /\ p.1∉X.fs /\ ∀ v,p.2.data≠.cell v
 hok:HOk X.prog X.w H s.heap
 len:σ.length=X.N.length
section
variable {X:Cx} {pins:List (Addr×Obj)} {σ:List (Option V)} {H H':Hp} {s:Shared} {h':Heap}
theorem Cx.Ok.nofr (ok:X.Ok) {b:Addr} {o:Obj} (e:X.base.get? b=some o):b∉X.fs:=fun hb=>by
 have:=(ok.funs.mem hb).1
 rw [e] at this; cases this
theorem Inv.bs (I:Inv X pins σ H s):∀ b o,X.base.get? b=some o->s.heap.get? b=some o /\ H b=none:=fun b o e=>
 ⟨I.base.keep b o (I.ok.bs b o e).1 (I.ok.bs b o e).2 (I.ok.nofr e) (I.ok.noex b o e),I.base.free b o (I.ok.bs b o e).1 (I.ok.bs b o e).2 (I.ok.noex b o e)⟩
theorem Inv.bk (I:Inv X pins σ H s):∀ b o,X.base.get? b=some o->s.heap.get? b=some o:=fun b o e=>(I.bs b o e).1
theorem Inv.mod (I:Inv X pins σ H s):Mod X.K X.mg X.base:=I.ok.mod
theorem Inv.kIn (I:Inv X pins σ H s):X.K.In s.heap:=I.ok.mod.kin.keeps I.bk
theorem Inv.lt (I:Inv X pins σ H s):X.env.locals < s.heap.objs.size:=let ⟨_,hn,_⟩:=I.loc; hn.lt
theorem Inv.sz (I:Inv X pins σ H s):X.s₀.heap.objs.size<=s.heap.objs.size:=Nat.le_trans I.ok.above (Nat.le_of_lt I.lt)
theorem Inv.nofs (I:Inv X pins σ H s) {a:Addr} (h:s.heap.objs.size<=a):a∉X.fs:=fun hb=>by
 obtain ⟨_,o,ho,_⟩:=I.ok.funs.mem hb
 exact absurd (Nat.lt_of_lt_of_le (Heap.lt_size ho) (Nat.le_trans I.sz h)) (Nat.lt_irrefl _)
theorem Inv.cne (I:Inv X pins σ H s):∀ x c,X.env.cells.lookup x=some c->c≠X.env.locals:=fun x c e z=>by
 obtain ⟨v,o,ho,hd⟩:=I.cell x c e
 obtain ⟨m,⟨o',es,ep,ho',hd',_⟩,_⟩:=I.loc
 rw [z,ho'] at ho; cases ho; rw [hd'] at hd; cases hd
theorem Inv.funs (I:Inv X pins σ H s):s.heap.FunFrames X.base X.outer:=by
 have all:∀ (l:List Env),(∀ b∈frs l,b∈X.fs)->X.s₀.heap.FunFrames X.base l->s.heap.FunFrames X.base l:=by
  intro l
  induction l with
  | nil=>intro _ _; trivial
  | cons env r ih=>
    intro hs hl
    obtain ⟨hk,⟨L,o,hf,hn,ho,hd⟩,hr⟩:=hl
    have hL:L∈X.fs:=hs L (by unfold frs; rw [List.filterMap_cons,hf]; exact List.mem_cons_self)
    obtain ⟨sl,e⟩:=I.base.slot L o ho (I.ok.frf L hL) hL fun z=>I.ok.exfs L z hL
    exact ⟨hk,⟨L,_,hf,hn,e,hd⟩,ih (fun b hb=>hs b (by unfold frs; rw [List.filterMap_cons,hf]; exact List.mem_cons_of_mem _ hb)) hr⟩
 exact all X.outer (fun _ hb=>hb) I.ok.funs
theorem Inv.stack (I:Inv X pins σ H s):s.heap.FunFrames X.base X.stack:=by
 rcases I.ok.stk with e | ⟨e,hf⟩
 ·rw [e]; exact I.funs
 ·rw [e]
  obtain ⟨m,hn,_⟩:=I.loc
  refine .cons (by rw [I.ok.kind]; decide) hf hn ?_ I.funs
  exact Heap.get?_none_of_le (Nat.le_trans I.ok.bsz I.ok.above)
theorem Inv.stkSub (I:Inv X pins σ H s):∀ b∈frs X.stack,b∈X.env.locals :: X.fs:=fun b hb=>by
 rcases I.ok.stk with e | ⟨e,hf⟩
 ·rw [e] at hb; exact List.mem_cons_of_mem _ hb
 ·rw [e] at hb
  unfold frs at hb
  rw [List.filterMap_cons,hf] at hb
  exact hb
theorem Inv.stkFree (I:Inv X pins σ H s):∀ b∈frs X.stack,H b=none:=fun b hb=>by
 rcases List.mem_cons.mp (I.stkSub b hb) with e | hb
 ·rw [e]; exact I.free
 ·obtain ⟨_,o,ho,_⟩:=I.ok.funs.mem hb
  exact I.base.free b o ho (I.ok.frf b hb) fun z=>I.ok.exfs b z hb
theorem Inv.step {g':Array GenState} {t':Nat} {d':Drawn} {ch:List Addr} (I:Inv X pins σ H s)
  (hch:∀ b∈ch,(b∈X.ex \/ X.s₀.heap.objs.size<=b) /\ b≠X.env.locals /\ (∀ x c,X.env.cells.lookup x=some c->c≠b) /\ ∀ p∈X.pn ++ pins,p.1≠b)
  (keep:∀ b o,b≠X.env.locals->b∉X.fs->b∉ch->s.heap.get? b=some o->H b=none->h'.get? b=some o)
  (slot:∀ b o,b≠X.env.locals->b∈X.fs->b∉ch->s.heap.get? b=some o->H b=none->∃ sl,h'.get? b=some { o with slots:=sl }) (free:∀ b o,b∉ch->s.heap.get? b=some o->H b=none->H' b=none)
  (there:∀ b o,b∉ch->s.heap.get? b=some o->∃ o',h'.get? b=some o')
  (tups:∀ b xs,H b=some (.tup xs)->H' b=some (.tup xs)) (frzs:∀ b o u,H b=some (.frz o u)->H' b=some (.frz o u)) (tbls:∀ b ps,H b=some (.tbl ps)->∃ more,H' b=some (.tbl (ps ++ more)))
  (ns:∀ m,s.heap.Ns X.env.locals m->h'.Ns X.env.locals m) (hok:HOk X.prog X.w H' h') (hg:AllBare g'):
  Inv X pins σ H' { s with heap:=h',gens:=g',drawn:=d',toks:=t' }:=by
 have neL:∀ b o,X.s₀.heap.get? b=some o->b≠X.env.locals:=fun b o e=>Nat.ne_of_lt (Nat.lt_of_lt_of_le (Heap.lt_size e) I.ok.above)
 have neC:∀ b o,X.s₀.heap.get? b=some o->b∉X.ex->b∉ch:=fun b o e hx hb=>by
  rcases (hch b hb).1 with z | z
  ·exact hx z
  ·exact absurd (Nat.lt_of_lt_of_le (Heap.lt_size e) z) (Nat.lt_irrefl _)
 have cellK:∀ x c,X.env.cells.lookup x=some c->∀ v,s.heap.IsCell c v->h'.IsCell c v:=fun x c e v ⟨o,ho,hd⟩=>by
  have nch:c∉ch:=fun z=>(hch c z).2.2.1 x c e rfl
  by_cases hc:c∈X.fs
  ·obtain ⟨sl,q⟩:=slot c o (I.cne x c e) hc nch ho (I.freeC x c e)
   exact ⟨_,q,hd⟩
  ·exact ⟨o,keep c o (I.cne x c e) hc nch ho (I.freeC x c e),hd⟩
 refine ⟨I.ok,I.os,hg,⟨fun b o e n hb hx=>?_,fun b o e n hb hx=>?_,fun b o e n hx=>?_,fun b o e hx=>?_,fun b xs e=>tups b xs (I.base.tups b xs e),fun b o xs e=>frzs b o xs (I.base.frzs b o xs e),fun b ps e=>?_⟩,?_,fun x c e=>?_,?_,fun x c e=>?_,fun p hp=>?_,hok,I.len⟩
 ·exact keep b o (neL b o e) hb (neC b o e hx) (I.base.keep b o e n hb hx) (I.base.free b o e n hx)
 ·obtain ⟨sl,e1⟩:=I.base.slot b o e n hb hx
  obtain ⟨sl',e2⟩:=slot b _ (neL b o e) hb (neC b o e hx) e1 (I.base.free b o e n hx)
  exact ⟨sl',e2⟩
 ·obtain ⟨o',e1⟩:=I.base.there b o e hx
  exact free b o' (neC b o e hx) e1 (I.base.free b o e n hx)
 ·obtain ⟨o',e1⟩:=I.base.there b o e hx
  exact there b o' (neC b o e hx) e1
 ·obtain ⟨m1,e1⟩:=I.base.tbls b ps e
  obtain ⟨m2,e2⟩:=tbls b _ e1
  exact ⟨m1 ++ m2,by rw [e2,Array.append_assoc]⟩
 ·obtain ⟨m,hn,hl⟩:=I.loc
  refine ⟨m,ns m hn,fun i x v e1 e2 e3=>?_⟩
  obtain ⟨u,r,l⟩:=hl i x v e1 e2 e3
  refine ⟨u,r,?_⟩
  rcases l with l | ⟨k,c,e,z⟩
  ·exact .inl l
  ·exact .inr ⟨k,c,e,cellK x c e _ z⟩
 ·obtain ⟨v,z⟩:=I.cell x c e
  exact ⟨v,cellK x c e v z⟩
 ·obtain ⟨m,⟨o,_,_,ho,_⟩,_⟩:=I.loc
  exact free _ o (fun z=>(hch _ z).2.1 rfl) ho I.free
 ·obtain ⟨v,o,ho,hd⟩:=I.cell x c e
  exact free c o (fun z=>(hch c z).2.2.1 x c e rfl) ho (I.freeC x c e)
 ·obtain ⟨e,n,ne,nf,d⟩:=I.pin p hp
  have nch:p.1∉ch:=fun z=>(hch p.1 z).2.2.2 p hp rfl
  exact ⟨keep p.1 p.2 ne nf nch e n,free p.1 p.2 nch e n,ne,nf,d⟩
theorem Inv.un {t':Nat} (I:Inv X pins σ H s) (u:Un X.fs [] H H' s.heap h') (hok:HOk X.prog X.w H' h'):Inv X pins σ H' { s with heap:=h',toks:=t' }:=by
 obtain ⟨m,⟨o,es,ep,ho,r⟩,_⟩:=id I.loc
 obtain ⟨sl,hL⟩:=u.any ho I.free (by simp)
 exact I.step (g':=s.gens) (d':=s.drawn) (ch:=[]) (fun _ z=>nomatch z) (fun b o _ hb _ e n=>u.keep b o e n hb (by simp)) (fun b o _ hb _ e n=>u.slot b o e n hb (by simp)) (fun b o _ e n=>u.free b o e n (by simp)) (fun b o _ e=>u.there b o e (by simp)) u.tups u.frzs u.tbls (fun m' hm=>by
  obtain ⟨o',es',ep',ho',r'⟩:=hm
  rw [ho] at ho'; cases ho'
  exact ⟨_,es',ep',hL,r'⟩) hok I.bare
theorem Inv.call {g':Array GenState} {t':Nat} {d':Drawn} {ch:List Addr} (I:Inv X pins σ H s) (u:Un (frs X.stack) ch H H' s.heap h') (hok:HOk X.prog X.w H' h') (hg:AllBare g')
  (hch:∀ b∈ch,(b∈X.ex \/ X.s₀.heap.objs.size<=b) /\ b≠X.env.locals /\ (∀ x c,X.env.cells.lookup x=some c->c≠b) /\ ∀ p∈X.pn ++ pins,p.1≠b):
  Inv X pins σ H' { s with heap:=h',gens:=g',drawn:=d',toks:=t' }:=by
 obtain ⟨m,⟨o,es,ep,ho,r⟩,_⟩:=id I.loc
 obtain ⟨sl,hL⟩:=u.any ho I.free fun z=>(hch _ z).2.1 rfl
 exact I.step (ch:=ch) hch (fun b o hL hb hc e n=>u.keep b o e n (fun z=>(List.mem_cons.mp (I.stkSub b z)).elim hL hb) hc) (fun b o _ _ hc e n=>u.any e n hc) (fun b o hc e n=>u.free b o e n hc) (fun b o hc e=>u.there b o e hc) u.tups u.frzs u.tbls (fun m' hm=>by
  obtain ⟨o',es',ep',ho',r'⟩:=hm
  rw [ho] at ho'; cases ho'
  exact ⟨_,es',ep',hL,r'⟩) hok hg
theorem Inv.turned {t':Nat} {it:Addr} (I:Inv X pins σ H s) (k:∀ b o,b≠it->s.heap.get? b=some o->h'.get? b=some o) (hn:H it=none) (hL:it≠X.env.locals)
  (h1:it∈X.ex \/ X.s₀.heap.objs.size<=it) (h2:∀ x c,X.env.cells.lookup x=some c->c≠it) (h3:∀ p∈X.pn ++ pins,p.1≠it):Inv X pins σ H { s with heap:=h',toks:=t' }:=by
 have nit:∀ b u,H b=some u->b≠it:=fun b u e z=>by rw [z,hn] at e; cases e
 refine I.step (g':=s.gens) (d':=s.drawn) (ch:=[it]) (fun b hb=>?_) (fun b o _ _ hc e _=>k b o (fun z=>hc (by simp [z])) e) (fun b o _ _ hc e _=>⟨o.slots,k b o (fun z=>hc (by simp [z])) e⟩) (fun _ _ _ _ n=>n)
  (fun b o hc e=>⟨o,k b o (fun z=>hc (by simp [z])) e⟩) (fun _ _ e=>e) (fun _ _ _ e=>e) (fun b ps e=>⟨#[],by rw [e]; simp⟩) (fun m hm=>?_) (fun b u e=>?_) I.bare
 ·have e:b=it:=by simpa using hb
  subst e
  exact ⟨h1,hL,h2,h3⟩
 ·obtain ⟨o,es,ep,ho,r⟩:=hm
  exact ⟨o,es,ep,k _ o (Ne.symm hL) ho,r⟩
 ·refine (I.hok b u e).stay (fun c v hc q=>k c v ?_ q) (fun _ q=>q) fun _ _ q=>q
  rcases hc with z | z
  ·rw [z]; exact nit b u e
  ·exact nit c _ z
theorem Inv.tok (I:Inv X pins σ H s) (t:Nat):Inv X pins σ H { s with toks:=t }:=I.un (h':=s.heap) (t':=t) Un.refl I.hok
theorem Inv.kept {t':Nat} (I:Inv X pins σ H s) (k:∀ b u,s.heap.get? b=some u->h'.get? b=some u):Inv X pins σ H { s with heap:=h',toks:=t' }:=I.un (Un.kept k) (I.hok.kept k)
theorem Inv.laid {a:Addr} {o:HO} {t':Nat} (I:Inv X pins σ H s) (k:∀ b u,s.heap.get? b=some u->h'.get? b=some u) (hp:s.heap.objs.size<=a) (new:ObjOk X.prog X.w (upd H a o) h' a o):
  Inv X pins σ (upd H a o) { s with heap:=h',toks:=t' }:=I.un (Un.laid k hp (I.hok.fresh hp)) (I.hok.laid k hp new)
theorem Inv.write {x e:Addr} {o:HO} {t':Nat} (I:Inv X pins σ H s) (mu:Mut (H x)) (he:e=x \/ H e=some (.own x)) (k:∀ b u,b≠e->s.heap.get? b=some u->h'.get? b=some u) (heo:∃ u,h'.get? e=some u)
  (new:ObjOk X.prog X.w (upd H x o) h' x o):Inv X pins σ (upd H x o) { s with heap:=h',toks:=t' }:=I.un (Un.write mu he k heo) (I.hok.write mu he k heo new)
theorem Inv.pins_of {pins':List (Addr×Obj)} (I:Inv X pins σ H s) (h:∀ p∈pins',s.heap.get? p.1=some p.2 /\ H p.1=none /\ p.1≠X.env.locals /\ p.1∉X.fs /\ ∀ v,p.2.data≠.cell v):Inv X pins' σ H s:=
 ⟨I.ok,I.os,I.bare,I.base,I.loc,I.cell,I.free,I.freeC,fun p hp=>(List.mem_append.mp hp).elim (fun z=>I.pin p (List.mem_append_left _ z)) (h p),I.hok,I.len⟩
theorem ziU {N:List Str} (hN:N.Nodup) {i j:Nat} {x:Str} (a:N[i]?=some x) (b:N[j]?=some x):i=j:=by
 obtain ⟨h1,e1⟩:=List.getElem?_eq_some_iff.mp a
 obtain ⟨h2,e2⟩:=List.getElem?_eq_some_iff.mp b
 exact (List.getElem_inj hN).mp (e1.trans e2.symm)
theorem zgz {M:Model} {A:Around} {E:Value->Shared->Prop} {i:Nat} {x:Str} {v:V} {u:Value} {Q:Unit->Shared->Prop} (I:Inv X pins σ H s) (hN:X.N.Nodup) (hi:X.N[i]?=some x) (hx:Loc X.env.scope x) (r:RelV v u)
  (h:∀ s',Inv X pins (σ.set i (some v)) H s'->(∃ a,Heap.SameBut a s.heap s'.heap /\ (a=X.env.locals \/ X.env.cells.lookup x=some a))->Q () s') (hf:X.fn x=true \/ X.env.scope.names.lookup x=some .local):wpAny M A (storeName X.env x u) Q E s:=by
 obtain ⟨m,hn,hl⟩:=id I.loc
 have hcls:(X.env.scope.kind == .class || (X.env.scope.kind == .module && X.env.locals != X.env.globals))=false:=by rw [I.ok.kind]; rfl
 have hiσ:i < σ.length:=by rw [I.len]; exact (List.getElem?_eq_some_iff.mp hi).1
 have cne:=I.cne
 have tracked:∀ {a:Addr} {h':Heap},(∃ o,s.heap.get? a=some o /\ H a=none)->Heap.SameBut a s.heap h'->HOk X.prog X.w H h':=fun {a h'} ha hs b ob e=>by
  obtain ⟨_,_,hfree⟩:=ha
  refine (I.hok b ob e).stay (fun c w' hc q=>(hs.2 c ?_).trans q) (fun _ q=>q) fun _ _ q=>q
  rintro rfl
  rcases hc with rfl | hc
  ·rw [hfree] at e; cases e
  ·rw [hfree] at hc; cases hc
 rcases hx with hk | hk
 ·refine wpAny_storeName_local hk hn (fun h' hn' hs=>?_) hcls
  obtain ⟨oL,_,_,hoL,_⟩:=id hn
  refine h _ ⟨I.ok,I.os,I.bare,⟨fun b o e n hb hx=>?_,fun b o e n hb hx=>?_,I.base.free,fun b o e hx=>?_,I.base.tups,I.base.frzs,I.base.tbls⟩,⟨_,hn',fun j y v' e1 e2 e3=>?_⟩,fun y c e=>?_,I.free,I.freeC,fun p hp=>?_,tracked ⟨oL,hoL,I.free⟩ hs,by simpa using I.len⟩ ⟨_,hs,.inl rfl⟩
  ·exact (hs.2 b (Nat.ne_of_lt (Nat.lt_of_lt_of_le (Heap.lt_size e) I.ok.above))).trans (I.base.keep b o e n hb hx)
  ·obtain ⟨sl,e1⟩:=I.base.slot b o e n hb hx
   exact ⟨sl,(hs.2 b (Nat.ne_of_lt (Nat.lt_of_lt_of_le (Heap.lt_size e) I.ok.above))).trans e1⟩
  ·obtain ⟨o',e1⟩:=I.base.there b o e hx
   exact ⟨o',(hs.2 b (Nat.ne_of_lt (Nat.lt_of_lt_of_le (Heap.lt_size e) I.ok.above))).trans e1⟩
  ·by_cases hj:j=i
   ·subst hj
    rw [hi] at e1; cases e1
    rw [List.getElem?_set_self hiσ] at e2
    cases e2
    exact ⟨u,r,.inl ⟨hk,by simp⟩⟩
   ·rw [List.getElem?_set_ne (Ne.symm hj)] at e2
    obtain ⟨u',r',q⟩:=hl j y v' e1 e2 e3
    refine ⟨u',r',?_⟩
    rcases q with ⟨k,e⟩ | ⟨k,c,e,z⟩
    ·refine .inl ⟨k,?_⟩
     have:y≠x:=fun e=>hj (ziU hN e1 (e ▸ hi))
     simp [this,e]
    ·exact .inr ⟨k,c,e,z.sameBut hs (cne y c e)⟩
  ·obtain ⟨w',z⟩:=I.cell y c e
   exact ⟨w',z.sameBut hs (cne y c e)⟩
  ·obtain ⟨e,n,ne,nf,d⟩:=I.pin p hp
   exact ⟨(hs.2 p.1 ne).trans e,n,ne,nf,d⟩
 ·have hfn:X.fn x=true:=by
   rcases hf with z | z
   ·exact z
   ·rw [z] at hk; cases hk
  obtain ⟨c,hc⟩:=I.ok.has x (.inl hk)
  obtain ⟨w',z⟩:=I.cell x c hc
  refine wpAny_storeName_cell I.ok.kind hk hc z (fun h' hc' hs=>?_)
  obtain ⟨oc,hoc,hocd⟩:=id z
  refine h { s with heap:=h' } ⟨I.ok,I.os,I.bare,⟨fun b o e n hb hx=>?_,fun b o e n hb hx=>?_,I.base.free,fun b o e hx=>?_,I.base.tups,I.base.frzs,I.base.tbls⟩,⟨m,hn.sameBut hs (Ne.symm (cne x c hc)),fun j y v' e1 e2 e3=>?_⟩,fun y c' e=>?_,I.free,I.freeC,fun p hp=>?_,tracked ⟨oc,hoc,I.freeC x c hc⟩ hs,by simpa using I.len⟩ ⟨c,hs,.inr hc⟩
  ·exact (hs.2 b (Nat.ne_of_lt (Nat.lt_of_lt_of_le (Heap.lt_size e) (I.ok.cab x c hfn hc)))).trans (I.base.keep b o e n hb hx)
  ·obtain ⟨sl,e1⟩:=I.base.slot b o e n hb hx
   exact ⟨sl,(hs.2 b (Nat.ne_of_lt (Nat.lt_of_lt_of_le (Heap.lt_size e) (I.ok.cab x c hfn hc)))).trans e1⟩
  ·obtain ⟨o',e1⟩:=I.base.there b o e hx
   exact ⟨o',(hs.2 b (Nat.ne_of_lt (Nat.lt_of_lt_of_le (Heap.lt_size e) (I.ok.cab x c hfn hc)))).trans e1⟩
  ·by_cases hj:j=i
   ·subst hj
    rw [hi] at e1; cases e1
    rw [List.getElem?_set_self hiσ] at e2
    cases e2
    exact ⟨u,r,.inr ⟨.inl hk,c,hc,hc'⟩⟩
   ·rw [List.getElem?_set_ne (Ne.symm hj)] at e2
    obtain ⟨u',r',q⟩:=hl j y v' e1 e2 e3
    refine ⟨u',r',?_⟩
    rcases q with q | ⟨k,c',e,z'⟩
    ·exact .inl q
    ·refine .inr ⟨k,c',e,z'.sameBut hs ?_⟩
     rintro rfl
     exact hj (ziU hN e1 (I.ok.inj _ _ _ e hc ▸ hi))
  ·by_cases hcc:c'=c
   ·subst hcc; exact ⟨_,hc'⟩
   ·obtain ⟨w2,z2⟩:=I.cell y c' e
    exact ⟨w2,z2.sameBut hs hcc⟩
  ·obtain ⟨e,n,ne,nf,d⟩:=I.pin p hp
   refine ⟨(hs.2 p.1 ?_).trans e,n,ne,nf,d⟩
   intro q
   rw [q,hoc] at e
   have q':oc=p.2:=Option.some.inj e
   exact d w' (by rw [<- q']; exact hocd)
theorem zeb {M:Model} {A:Around} {E:Value->Shared->Prop} {i:Nat} {x:Str} {v:V} {u:Value} {Q:Unit->Shared->Prop} (I:Inv X pins σ H s) (hN:X.N.Nodup) (hi:X.N[i]?=some x) (hx:Loc X.env.scope x) (r:RelV v u)
  (h:∀ s',Inv X pins (σ.set i (some v)) H s'->Q () s') (hf:X.fn x=true \/ X.env.scope.names.lookup x=some .local):wpAny M A (storeName X.env x u) Q E s:=
 zgz I hN hi hx r (fun s' I' _=>h s' I') hf
theorem Inv.call' {s':Shared} {ch:List Addr} (I:Inv X pins σ H s) (ho:s'.os=s.os) (u:Un (frs X.stack) ch H H' s.heap s'.heap) (hok:HOk X.prog X.w H' s'.heap) (hg:AllBare s'.gens)
  (hch:∀ b∈ch,(b∈X.ex \/ X.s₀.heap.objs.size<=b) /\ b≠X.env.locals /\ (∀ x c,X.env.cells.lookup x=some c->c≠b) /\ ∀ p∈X.pn ++ pins,p.1≠b):Inv X pins σ H' s':=by
 obtain ⟨h',g',d',t',o'⟩:=s'
 have e:o'=s.os:=ho
 subst e
 exact I.call (g':=g') (t':=t') (d':=d') u hok hg hch
end
noncomputable abbrev XK:=Value->Option Addr->Hp->Prop
noncomputable abbrev St:=List (Option V)
noncomputable abbrev VK:=V->Hp->Prop
noncomputable abbrev TE:=St->Hp->VK->Prop
noncomputable abbrev TT:=St->Hp->(Bool->Hp->Prop)->Prop
noncomputable abbrev TA:=St->Hp->(List V->Hp->Prop)->Prop
structure Ends where
 nx:St->Hp->Prop
 rt:VK
 bk:St->Hp->Prop:=fun _ _=>False
 ct:St->Hp->Prop:=fun _ _=>False
noncomputable abbrev TS:=Ends->St->Hp->Prop
noncomputable def EP (X:Cx) (pins:List (Addr×Obj)) (σ:St) (Q:VK) (u:Value) (s':Shared):Prop:=∃ v H',Inv X pins σ H' s' /\ RelV v u /\ Q v H'
noncomputable def TP (X:Cx) (pins:List (Addr×Obj)) (σ:St) (Q:Bool->Hp->Prop) (b:Bool) (s':Shared):Prop:=∃ H',Inv X pins σ H' s' /\ Q b H'
noncomputable def AP (X:Cx) (pins:List (Addr×Obj)) (σ:St) (Q:List V->Hp->Prop) (us:List Value) (s':Shared):Prop:=∃ vs H',Inv X pins σ H' s' /\ Vals vs us /\ Q vs H'
noncomputable def SP (X:Cx) (pins:List (Addr×Obj)) (D:Ends) (f:Flow) (s':Shared):Prop:=
 match f with
 | .next=>∃ σ' H',Inv X pins σ' H' s' /\ D.nx σ' H'
 | .brk=>∃ σ' H',Inv X pins σ' H' s' /\ D.bk σ' H'
 | .cont=>∃ σ' H',Inv X pins σ' H' s' /\ D.ct σ' H'
 | .ret u=>∃ v σ' H',Inv X pins σ' H' s' /\ RelV v u /\ D.rt v H'
noncomputable def PE (X:Cx) (e:Expr) (t:TE):Prop:=
 ∀ (pins:List (Addr×Obj)) (s:Shared) (σ:St) (H:Hp) (Q:VK),Inv X pins σ H s->t σ H Q->wpAny (model X.prog X.w) X.A (eval e X.env) (EP X pins σ Q) X.xe s
noncomputable def PT (X:Cx) (e:Expr) (t:TT):Prop:=
 ∀ (pins:List (Addr×Obj)) (s:Shared) (σ:St) (H:Hp) (Q:Bool->Hp->Prop),Inv X pins σ H s->t σ H Q->wpAny (model X.prog X.w) X.A (isTrue e X.env (eval e X.env)) (TP X pins σ Q) X.xe s
noncomputable def PW (X:Cx) (e:Expr) (t:TT):Prop:=
 ∀ (whole:Sem Value) (pins:List (Addr×Obj)) (s:Shared) (σ:St) (H:Hp) (Q:Bool->Hp->Prop),Inv X pins σ H s->t σ H Q->wpAny (model X.prog X.w) X.A (isTrue e X.env whole) (TP X pins σ Q) X.xe s
theorem PW.pt {X:Cx} {e:Expr} {t:TT} (h:PW X e t):PT X e t:=h _
noncomputable def PA (X:Cx) (es:List Expr) (t:TA):Prop:=
 ∀ (pos:Pos) (pins:List (Addr×Obj)) (s:Shared) (σ:St) (H:Hp) (Q:List V->Hp->Prop),Inv X pins σ H s->t σ H Q->wpAny (model X.prog X.w) X.A (spliced (backTo pos (starEach es X.env))) (AP X pins σ Q) X.xe s
noncomputable def PS (X:Cx) (st:Stmt) (t:TS):Prop:=
 ∀ (pins:List (Addr×Obj)) (s:Shared) (σ:St) (H:Hp) (D:Ends),Inv X pins σ H s->t D σ H->wpAny (model X.prog X.w) X.A (exec st X.env) (SP X pins D) X.xe s
noncomputable def PSs (X:Cx) (st:List Stmt) (t:TS):Prop:=
 ∀ (pins:List (Addr×Obj)) (s:Shared) (σ:St) (H:Hp) (D:Ends),Inv X pins σ H s->t D σ H->wpAny (model X.prog X.w) X.A (execs st X.env) (SP X pins D) X.xe s
theorem thn {α:Type} {t:Sem α} {Q Q':α->Shared->Prop} {M:Model} {A:Around} {E:Value->Shared->Prop} {s:Shared} (h:wpAny M A t Q E s) (hQ:∀ a s,Q a s->Q' a s):wpAny M A t Q' E s:=wpAny_mono h hQ fun _ _ x=>x
end L2
namespace L2
open PySem PySem.Spec PyProof.Rows
section
variable {X:Cx}
noncomputable def tVar (i:Nat):TE:=fun σ H Q=>∃ v,σ[i]?=some (some v) /\ Q v H
noncomputable def tC (v:V):TE:=fun _ H Q=>Q v H
theorem zpY {i:Nat} {x:Str} {pos:Pos} (hN:X.N[i]?=some x) (hv:Vis X.env.scope x) (hd:(x == ("__debug__":Str))=false:=by decide) (hcd:(x == ("__classdict__":Str))=false:=by decide):PE X (.Name x pos) (tVar i):=by
 intro pins s σ H Q I h
 obtain ⟨v,e,h⟩:=h
 obtain ⟨m,hn,hl⟩:=I.loc
 obtain ⟨u,r,l⟩:=hl i x v hN e hv
 have fin:EP X pins σ Q u s:=⟨v,H,I,r,h⟩
 rcases l with ⟨hk,hm⟩ | ⟨hk,c,hc,hcell⟩
 ·exact wpAny_Name (wpAny_loadName_local I.ok.kind hk hn hm fin) hd
 ·rcases hk with hk | hk
  ·exact wpAny_Name (wpAny_loadName_cell I.ok.kind hk hc hcell fin) hd
  ·exact wpAny_Name (wpAny_loadName_free I.ok.kind hk hc hcell fin hcd) hd
theorem ze {i j pos}:PE X (.Constant (.int i) j pos) (tC (.int i)):=fun _ _ _ H _ I h=>wpAny_Constant_int ⟨.int i,H,I.tok _,⟨_,rfl⟩,h⟩
theorem zpL {b j pos}:PE X (.Constant (.bool b) j pos) (tC (.bl b)):=fun _ _ _ H _ I h=>Constant_bool ⟨.bl b,H,I,rfl,h⟩
theorem zaO {x j pos}:PE X (.Constant (.str x) j pos) (tC (.str x)):=fun _ _ _ H _ I h=>Calls.Constant_str ⟨.str x,H,I.tok _,⟨_,rfl⟩,h⟩
noncomputable def Gl (X:Cx) (x:Str):Prop:=X.env.kindOf x=some .globalImplicit
theorem zeq {E:Value->Shared->Prop} {pins:List (Addr×Obj)} {s:Shared} {σ:St} {H:Hp} {x:Str} {u:Value} {pos:Pos} {Q:Value->Shared->Prop} (I:Inv X pins σ H s) (hg:Gl X x) (hm:X.mg x=some u) (h:Q u s)
  (hd:(x == ("__debug__":Str))=false:=by decide):wpAny (model X.prog X.w) X.A (eval (.Name x pos) X.env) Q E s:=
 Calls.Name_function_global I.ok.kind hg (Calls.loadGlobal_global (by rw [I.ok.glob]; exact I.mod.glob.keeps I.bk) hm h) hd
theorem zdk {E:Value->Shared->Prop} {pins:List (Addr×Obj)} {s:Shared} {σ:St} {H:Hp} {x:Str} {u:Value} {pos:Pos} {Q:Value->Shared->Prop} (I:Inv X pins σ H s) (hg:Gl X x) (hm:X.mg x=none) (hv:bootBuiltins x=some u) (h:Q u s)
  (hn:x≠"__name__":=by decide) (hd:(x == ("__debug__":Str))=false:=by decide):wpAny (model X.prog X.w) X.A (eval (.Name x pos) X.env) Q E s:=by
 obtain ⟨mb,h1,h2⟩:=I.mod.blt
 exact Calls.Name_function_global I.ok.kind hg (Calls.loadGlobal_builtin (by rw [I.ok.glob]; exact I.mod.glob.keeps I.bk) hm (by rw [I.ok.blt]; exact h1.keeps I.bk) ((h2 x hn).trans hv) h) hd
theorem zph {x:Str} {v:V} {u:Value} {pos:Pos} (hg:Gl X x) (hm:X.mg x=some u) (r:RelV v u) (hd:(x == ("__debug__":Str))=false:=by decide):PE X (.Name x pos) (tC v):=
 fun _ _ _ H _ I h=>zeq I hg hm ⟨v,H,I,r,h⟩ hd
theorem zhA {x:Str} {v:V} {u:Value} {pos:Pos} (hg:Gl X x) (hm:X.mg x=none) (hv:bootBuiltins x=some u) (r:RelV v u) (hn:x≠"__name__":=by decide) (hd:(x == ("__debug__":Str))=false:=by decide):PE X (.Name x pos) (tC v):=
 fun _ _ _ H _ I h=>zdk I hg hm hv ⟨v,H,I,r,h⟩ hn hd
variable {a b:Expr} {ta tb:TE} {pos:Pos}
variable {tA tB':TT} {rest:List Expr}
noncomputable def tAnd (t u:TT):TT:=fun σ H Q=>t σ H fun c H1=>if c=true then u σ H1 Q else Q false H1
noncomputable def tOr (t u:TT):TT:=fun σ H Q=>t σ H fun c H1=>if c=true then Q true H1 else u σ H1 Q
noncomputable def tNot (t:TT):TT:=fun σ H Q=>t σ H fun c H1=>Q (!c) H1
theorem zii (ha:PT X a tA):PW X (.BoolOp .And [a] pos) tA:=by
 intro wh pins s σ H Q I h
 refine isTrue_and (thn (ha pins s σ H Q I h) fun c s1 e=>?_)
 cases c with
 | true=>exact isTrue_and_nil e
 | false=>exact e
theorem zqw (ha:PT X a tA):PW X (.BoolOp .Or [a] pos) tA:=by
 intro wh pins s σ H Q I h
 refine isTrue_or (thn (ha pins s σ H Q I h) fun c s1 e=>?_)
 cases c with
 | false=>exact isTrue_or_nil e
 | true=>exact e
theorem zqB (ha:PT X a tA) (hb:PW X (.BoolOp .And (b :: rest) pos) tB'):PW X (.BoolOp .And (a :: b :: rest) pos) (tAnd tA tB'):=by
 intro wh pins s σ H Q I h
 refine isTrue_and (thn (ha pins s σ H _ I h) fun c s1 ⟨H1,I1,q1⟩=>?_)
 cases c with
 | true=>exact hb wh pins s1 σ H1 Q I1 q1
 | false=>exact ⟨H1,I1,q1⟩
theorem zq0 (ha:PT X a tA) (hb:PW X (.BoolOp .Or (b :: rest) pos) tB'):PW X (.BoolOp .Or (a :: b :: rest) pos) (tOr tA tB'):=by
 intro wh pins s σ H Q I h
 refine isTrue_or (thn (ha pins s σ H _ I h) fun c s1 ⟨H1,I1,q1⟩=>?_)
 cases c with
 | true=>exact ⟨H1,I1,q1⟩
 | false=>exact hb wh pins s1 σ H1 Q I1 q1
theorem zqg (ha:PT X a tA):PT X (.UnaryOp .Not a pos) (tNot tA):=by
 intro pins s σ H Q I h
 exact isTrue_not (ha pins s σ H (fun c H1=>Q (!c) H1) I h)
noncomputable def tAndV (ta tb:TE):TE:=fun σ H Q=>ta σ H fun x H1=>∃ c,x=.bl c /\ if c=true then tb σ H1 Q else Q (.bl false) H1
noncomputable def tOrV (ta tb:TE):TE:=fun σ H Q=>ta σ H fun x H1=>∃ c,x=.bl c /\ if c=true then Q (.bl true) H1 else tb σ H1 Q
theorem zln {op} {t:TE} (h:PE X a t):PE X (.BoolOp op [a] pos) t:=fun pins s σ H Q I hw=>BoolOp_one (h pins s σ H Q I hw)
theorem zqH (ha:PE X a ta) (hb:PE X (.BoolOp .And (b :: rest) pos) tb):PE X (.BoolOp .And (a :: b :: rest) pos) (tAndV ta tb):=by
 intro pins s σ H Q I h
 refine BoolOp_and (thn (ha pins s σ H _ I h) fun v s1 ⟨x,H1,I1,r1,q1⟩=>?_)
 obtain ⟨c,rfl,q1⟩:=q1
 cases r1
 refine wpAny_truthy_bool ?_
 cases c with
 | true=>exact hb pins s1 σ H1 Q I1 q1
 | false=>exact ⟨.bl false,H1,I1,rfl,q1⟩
theorem zqO (ha:PE X a ta) (hb:PE X (.BoolOp .Or (b :: rest) pos) tb):PE X (.BoolOp .Or (a :: b :: rest) pos) (tOrV ta tb):=by
 intro pins s σ H Q I h
 refine BoolOp_or (thn (ha pins s σ H _ I h) fun v s1 ⟨x,H1,I1,r1,q1⟩=>?_)
 obtain ⟨c,rfl,q1⟩:=q1
 cases r1
 refine wpAny_truthy_bool ?_
 cases c with
 | false=>exact hb pins s1 σ H1 Q I1 q1
 | true=>exact ⟨.bl true,H1,I1,rfl,q1⟩
end
end L2
namespace L2
open PySem PySem.Spec PyProof.Rows
noncomputable def SqL (K:PySem.W.Frag) (H:Hp) (a:Addr) (xs:List V):Prop:=
 Rd H a (.lst xs) \/
  ∃ (o:Obj) (its:Array Value) (n:Nat),K.lookup a=some o /\ o.cls=.type "list" /\ o.dict=none /\ o.data=.seq its n /\ its.size<=sizeLine /\ Vals xs its.toList
noncomputable def SqT (K:PySem.W.Frag) (H:Hp) (a:Addr) (xs:List V):Prop:=
 Rd H a (.tup xs) \/
  ∃ (o:Obj) (its:Array Value) (n:Nat),K.lookup a=some o /\ o.cls=.type "tuple" /\ o.data=.seq its n /\ its.size<=sizeLine /\ Vals xs its.toList
noncomputable def absV:Value->Option V
 | .none=>some .non
 | .bool b=>some (.bl b)
 | .int i _=>some (.int i)
 | .str x _=>some (.str x)
 | .bytes b _=>some (.byt b)
 | .float b _=>some (.flt b)
 | .ref a=>some (.ref a)
 | .type n=>some (.ty n)
 | _=>none
theorem RelV.abs {x:V} {u:Value} (r:RelV x u):absV u=some x:=by
 cases x with
 | non=>cases r; rfl
 | bl _=>cases r; rfl
 | int _=>obtain ⟨t,rfl⟩:=r; rfl
 | str _=>obtain ⟨t,rfl⟩:=r; rfl
 | byt _=>obtain ⟨t,rfl⟩:=r; rfl
 | flt _=>obtain ⟨t,rfl⟩:=r; rfl
 | ref _=>cases r; rfl
 | ty _=>cases r; rfl
theorem RelV.inj {x y:V} {u:Value} (r:RelV x u) (q:RelV y u):x=y:=Option.some.inj (r.abs.symm.trans q.abs)
theorem Vals.inj:∀ {xs ys:List V} {us:List Value},Vals xs us->Vals ys us->xs=ys
 | _,_,_,.nil,.nil=>rfl
 | _,_,_,.cons r t,.cons r' t'=>by rw [r.inj r',Vals.inj t t']
section
variable {X:Cx} {pins:List (Addr×Obj)} {σ:St} {H:Hp} {s:Shared} {a:Addr} {xs ys:List V}
theorem SqL.of {K:PySem.W.Frag} (h:H a=some (.lst xs)):SqL K H a xs:=.inl (.inl h)
theorem Inv.list (I:Inv X pins σ H s) (h:SqL X.K H a xs):∃ its:List Value,Vals xs its /\ PlainL s.heap a its.toArray /\ xs.length<=sizeLine:=by
 rcases h with h | ⟨o,its,n,hk,hc,hd,hs,hz,r⟩
 ·obtain ⟨z,its,n,r,e⟩:=h.ok I.hok
  exact ⟨its,r,⟨_,n,e,rfl,rfl,rfl⟩,z⟩
 ·refine ⟨its.toList,r,⟨o,n,I.kIn a o hk,hc,hd,by simpa using hs⟩,?_⟩
  have e:=r.length
  simp only [Array.length_toList] at e
  omega
theorem Inv.tuple (I:Inv X pins σ H s) (h:SqT X.K H a xs):∃ its:List Value,Vals xs its /\ IsTup s.heap a its.toArray /\ xs.length<=sizeLine:=by
 rcases h with h | ⟨o,its,n,hk,hc,hs,hz,r⟩
 ·obtain ⟨z,its,r,p⟩:=h.ok I.hok
  exact ⟨its,r,p,z⟩
 ·refine ⟨its.toList,r,⟨o,I.kIn a o hk,hc,n,by simpa using hs⟩,?_⟩
  have e:=r.length
  simp only [Array.length_toList] at e
  omega
theorem Inv.list_inj (I:Inv X pins σ H s) (h:SqL X.K H a xs) (h':SqL X.K H a ys):xs=ys:=by
 obtain ⟨its,r,⟨o,n,e,_,_,d⟩,_⟩:=I.list h
 obtain ⟨its',r',⟨o',n',e',_,_,d'⟩,_⟩:=I.list h'
 rw [e] at e'; cases e'
 rw [d] at d'
 injection d' with d1 _
 have:its=its':=by simpa using congrArg Array.toList d1
 subst this
 exact r.inj r'
theorem Inv.tuple_inj (I:Inv X pins σ H s) (h:SqT X.K H a xs) (h':SqT X.K H a ys):xs=ys:=by
 obtain ⟨its,r,⟨o,e,_,n,d⟩,_⟩:=I.tuple h
 obtain ⟨its',r',⟨o',e',_,n',d'⟩,_⟩:=I.tuple h'
 rw [e] at e'; cases e'
 rw [d] at d'
 injection d' with d1 _
 have:its=its':=by simpa using congrArg Array.toList d1
 subst this
 exact r.inj r'
end
noncomputable abbrev Cx.wish (X:Cx) (E:Value->Shared->Prop):Cx:={ X with xe:=E }
noncomputable abbrev Cx.nox (X:Cx):Cx:=X.wish fun _ _=>False
theorem Cx.Ok.wish {X:Cx} (ok:X.Ok) (E:Value->Shared->Prop):(X.wish E).Ok:=
 ⟨ok.mod,ok.kind,ok.glob,ok.blt,ok.above,ok.inj,ok.has,ok.cab,ok.hd,ok.frames,ok.stk,ok.exf,ok.bs,ok.bsz,ok.noex,ok.exfs,ok.funs,ok.frf⟩
theorem Cx.Ok.unwish {X:Cx} {E:Value->Shared->Prop} (ok:(X.wish E).Ok):X.Ok:=
 ⟨ok.mod,ok.kind,ok.glob,ok.blt,ok.above,ok.inj,ok.has,ok.cab,ok.hd,ok.frames,ok.stk,ok.exf,ok.bs,ok.bsz,ok.noex,ok.exfs,ok.funs,ok.frf⟩
section
variable {X:Cx} {pins:List (Addr×Obj)} {σ:St} {H:Hp} {s:Shared} {E:Value->Shared->Prop}
theorem Inv.wish (I:Inv X pins σ H s) (E:Value->Shared->Prop):Inv (X.wish E) pins σ H s:=⟨I.ok.wish E,I.os,I.bare,I.base,I.loc,I.cell,I.free,I.freeC,I.pin,I.hok,I.len⟩
theorem Inv.unwish (I:Inv (X.wish E) pins σ H s):Inv X pins σ H s:=⟨I.ok.unwish,I.os,I.bare,I.base,I.loc,I.cell,I.free,I.freeC,I.pin,I.hok,I.len⟩
theorem SP.unwish {D:Ends} {f:Flow} {s':Shared} (h:SP (X.wish E) pins D f s'):SP X pins D f s':=by
 cases f with
 | next=>obtain ⟨σ',H',I,q⟩:=h; exact ⟨σ',H',I.unwish,q⟩
 | brk=>obtain ⟨σ',H',I,q⟩:=h; exact ⟨σ',H',I.unwish,q⟩
 | cont=>obtain ⟨σ',H',I,q⟩:=h; exact ⟨σ',H',I.unwish,q⟩
 | ret u=>obtain ⟨v,σ',H',I,r,q⟩:=h; exact ⟨v,σ',H',I.unwish,r,q⟩
theorem PSs.nox {st:List Stmt} {t:TS} (h:PSs X.nox st t):PSs X st t:=fun pins s σ H D I hw=>
 wpAny_mono (h pins s σ H D (I.wish _) hw) (fun _ _ q=>q.unwish) fun _ _ z=>False.elim z
end
section
variable {X:Cx} {st:Stmt} {rest:List Stmt} {t u:TS} {e:Expr} {te:TE} {pos:Pos}
noncomputable def tNext:TS:=fun D σ H=>D.nx σ H
noncomputable def tSeq (t u:TS):TS:=fun D σ H=>t { D with nx:=u D } σ H
theorem zoY:PSs X [] tNext:=fun _ _ σ H _ I h=>wpAny_execs_nil ⟨σ,H,I,h⟩
theorem znc (h1:PS X st t) (h2:PSs X rest u):PSs X (st :: rest) (tSeq t u):=by
 intro pins s σ H D I h
 refine wpAny_execs_cons (thn (h1 pins s σ H { D with nx:=u D } I h) fun f s1 q=>?_)
 cases f with
 | next=>
   obtain ⟨σ',H',I',q⟩:=q
   exact h2 pins s1 σ' H' D I' q
 | ret v=>exact q
 | brk=>exact q
 | cont=>exact q
theorem zoB (h1:PS X st t):PSs X [st] t:=by
 intro pins s σ H D I h
 refine wpAny_execs_cons (thn (h1 pins s σ H D I h) fun f s1 q=>?_)
 cases f with
 | next=>exact wpAny_execs_nil q
 | ret v=>exact q
 | brk=>exact q
 | cont=>exact q
theorem Inv.quiet {pins:List (Addr×Obj)} {σ:St} {H:Hp} {s:Shared} (I:Inv X pins σ H s):interactive X.env=false:=by simp [interactive,I.ok.kind]
noncomputable def tDrop (te:TE):TS:=fun D σ H=>te σ H fun _ H1=>D.nx σ H1
theorem zai (he:PE X e te) (hs:swapsWith e none pos.line X.env=pure false:=by rfl):PS X (.Expr e pos) (tDrop te):=by
 intro pins s σ H D I h
 exact wpAny_Expr_any (thn (he pins s σ H _ I h) fun v s1 ⟨x,H1,I1,r1,q1⟩=>⟨σ,H1,I1,q1⟩) I.quiet hs
noncomputable def tRet (te:TE):TS:=fun D σ H=>te σ H D.rt
theorem zlG (he:PE X e te):PS X (.Return (some e) pos) (tRet te):=by
 intro pins s σ H D I h
 exact wpAny_Return_some (thn (he pins s σ H _ I h) fun v s1 ⟨x,H1,I1,r1,q1⟩=>⟨x,σ,H1,I1,r1,q1⟩)
noncomputable def tIfS (c:TT) (t u:TS):TS:=fun D σ H=>c σ H fun b H1=>if b=true then t D σ H1 else u D σ H1
theorem zq2 {c:Expr} {a b:List Stmt} {tc:TT} (hc:PT X c tc) (ha:PSs X a t) (hb:PSs X b u):PS X (.If c a b pos) (tIfS tc t u):=by
 intro pins s σ H D I h
 refine wpAny_If (thn (hc pins s σ H _ I h) fun d s1 ⟨H1,I1,q1⟩=>?_)
 cases d with
 | true=>exact ha pins s1 σ H1 D I1 q1
 | false=>exact hb pins s1 σ H1 D I1 q1
noncomputable def tNever:TS:=fun _ _ _=>False
theorem zm1:PS X st tNever:=fun _ _ _ _ _ _ h=>h.elim
end
noncomputable abbrev TG:=V->St->Hp->(St->Hp->Prop)->Prop
noncomputable abbrev TGs:=List V->St->Hp->(St->Hp->Prop)->Prop
noncomputable def PG (X:Cx) (target:Expr) (t:TG):Prop:=
 ∀ (pins:List (Addr×Obj)) (s:Shared) (σ:St) (H:Hp) (v:V) (u:Value) (Q:St->Hp->Prop),Inv X pins σ H s->RelV v u->t v σ H Q->
   wpAny (model X.prog X.w) X.A (assign target X.env u) (fun _ s'=>∃ σ' H',Inv X pins σ' H' s' /\ Q σ' H') X.xe s
noncomputable def PGs (X:Cx) (ts:List Expr) (t:TGs):Prop:=
 ∀ (pins:List (Addr×Obj)) (s:Shared) (σ:St) (H:Hp) (vs:List V) (us:List Value) (Q:St->Hp->Prop),Inv X pins σ H s->Vals vs us->t vs σ H Q->
   wpAny (model X.prog X.w) X.A (assignInOrder ((assignEach ts X.env).map (·.2)) us) (fun _ s'=>∃ σ' H',Inv X pins σ' H' s' /\ Q σ' H') X.xe s
noncomputable abbrev TSet:=V->V->V->Hp->(Hp->Prop)->Prop
noncomputable def PSet (X:Cx) (t:TSet):Prop:=
 ∀ (pins:List (Addr×Obj)) (s:Shared) (σ:St) (H:Hp) (o i v:V) (ov iv u:Value) (Q:Hp->Prop),Inv X pins σ H s->RelV o ov->RelV i iv->RelV v u->t o i v H Q->
   wpAny (model X.prog X.w) X.A (setItem ov iv u) (fun _ s'=>∃ H',Inv X pins σ H' s' /\ Q H') X.xe s
noncomputable abbrev TIp:=V->V->Hp->VK->Prop
noncomputable def PIp (X:Cx) (op:Operator) (t:TIp):Prop:=
 ∀ (pins:List (Addr×Obj)) (s:Shared) (σ:St) (H:Hp) (x y:V) (v u:Value) (Q:VK),Inv X pins σ H s->RelV x v->RelV y u->t x y H Q->
   wpAny (model X.prog X.w) X.A (inplaceOp op v u) (EP X pins σ Q) X.xe s
section
variable {X:Cx} {pos:Pos}
noncomputable def gName (i:Nat):TG:=fun v σ H Q=>Q (σ.set i (some v)) H
theorem zB {i:Nat} {x:Str} (hN:X.N.Nodup) (hi:X.N[i]?=some x) (hx:Loc X.env.scope x) (hf:X.fn x=true \/ X.env.scope.names.lookup x=some .local:=by first | exact .inl rfl | exact .inr rfl | assumption):PG X (.Name x pos) (gName i):=by
 intro pins s σ H v u Q I r h
 exact wpAny_assign_Name (zeb I hN hi hx r (fun s' I'=>⟨_,H,I',h⟩) hf)
noncomputable def gNil:TGs:=fun vs σ H Q=>vs=[] /\ Q σ H
noncomputable def gCons (t:TG) (u:TGs):TGs:=fun vs σ H Q=>∃ v r,vs=v :: r /\ t v σ H fun σ' H'=>u r σ' H' Q
theorem zoV:PGs X [] gNil:=by
 intro pins s σ H vs us Q I r h
 obtain ⟨e,h⟩:=h
 subst e
 cases r
 exact assignInOrder_nil ⟨σ,H,I,h⟩
theorem zme {e:Expr} {es:List Expr} {t:TG} {u:TGs} (h1:PG X e t) (h2:PGs X es u)
  (hs:(assignEach (e :: es) X.env).map (·.2)=assign e X.env :: (assignEach es X.env).map (·.2):=by rfl):PGs X (e :: es) (gCons t u):=by
 intro pins s σ H vs us Q I r h
 obtain ⟨v,vr,e1,h⟩:=h
 subst e1
 cases r with
 | cons r rr=>
   rw [hs]
   refine assignInOrder_cons (thn (h1 pins s σ H _ _ _ I r h) fun _ s1 ⟨σ1,H1,I1,q1⟩=>?_)
   exact h2 pins s1 σ1 H1 _ _ Q I1 rr q1
noncomputable def gTup (K:PySem.W.Frag) (n:Nat) (t:TGs):TG:=fun v σ H Q=>∃ a xs,v=.ref a /\ SqT K H a xs /\ xs.length=n /\ t xs σ H Q
theorem zqi {es:List Expr} {k:Nat} {t:TGs} {n:Nat} (hc:X.calm=true) (h:PGs X es t)
  (hn:(assignEach es X.env).length=n:=by rfl) (hst:(assignEach es X.env).findIdx? (·.1)=none:=by rfl):PG X (.Tuple es k pos) (gTup X.K n t):=by
 intro pins s σ H v u Q I r hw
 obtain ⟨a,xs,e1,hq,hl,hw⟩:=hw
 subst e1
 cases r
 obtain ⟨its,rv,ht,hz⟩:=I.tuple hq
 refine assign_Tuple_tuple (I.ok.hd hc) ht (by simp [hn,<- hl,rv.length]) hst fun h' hx=>?_
 have I1:Inv X pins σ H { s with heap:=h' }:=I.kept (t':=s.toks) fun b o e=>hx b o (Nat.ne_of_lt (Heap.lt_size e)) e
 exact h pins _ σ H xs _ Q I1 (by simpa using rv) hw
noncomputable def tAsg (te:TE) (g:TG):TS:=fun D σ H=>te σ H fun x H1=>g x σ H1 D.nx
theorem zm {i:Nat} {x:Str} {e:Expr} {te:TE} {pos':Pos} (hN:X.N.Nodup) (hi:X.N[i]?=some x) (hx:Loc X.env.scope x) (he:PE X e te) (hs:swapsWith e (some (.Name x pos')) pos.line X.env=pure false:=by rfl) (hf:X.fn x=true \/ X.env.scope.names.lookup x=some .local:=by first | exact .inl rfl | exact .inr rfl | assumption):
  PS X (.Assign [.Name x pos'] e pos) (tAsg te (gName i)):=by
 intro pins s σ H D I h
 refine wpAny_Assign_Name (thn (he pins s σ H _ I h) fun v s1 ⟨y,H1,I1,r1,q1⟩=>?_) hs
 exact zeb I1 hN hi hx r1 (fun s2 I2=>⟨_,H1,I2,q1⟩) hf
noncomputable def tAug (i:Nat) (te:TE) (ti:TIp):TS:=fun D σ H=>∃ x,σ[i]?=some (some x) /\ te σ H fun y H1=>ti x y H1 fun z H2=>D.nx (σ.set i (some z)) H2
theorem znn {i:Nat} {x:Str} {e:Expr} {te:TE} {op:Operator} {ti:TIp} {pos':Pos} (hN:X.N.Nodup) (hi:X.N[i]?=some x) (hx:Loc X.env.scope x) (he:PE X e te) (ho:PIp X op ti) (hf:X.fn x=true \/ X.env.scope.names.lookup x=some .local:=by first | exact .inl rfl | exact .inr rfl | assumption):
  PS X (.AugAssign (.Name x pos') op e pos) (tAug i te ti):=by
 intro pins s σ H D I h
 obtain ⟨v,e1,h⟩:=h
 obtain ⟨m,hn,hl⟩:=I.loc
 have vis:Vis X.env.scope x:=by rcases hx with k | k; exact .inl k; exact .inr (.inl k)
 obtain ⟨u,r,l⟩:=hl i x v hi e1 vis
 refine wpAny_AugAssign_Name ?_
 have go:wpAny (model X.prog X.w) X.A (eval e X.env) (fun w s₂=>wpAny (model X.prog X.w) X.A (inplaceOp op u w) (fun r s₃=>wpAny (model X.prog X.w) X.A (storeName X.env x r) (fun _=>SP X pins D .next) X.xe s₃) X.xe s₂) X.xe s:=by
  refine thn (he pins s σ H _ I h) fun w s1 ⟨y,H1,I1,r1,q1⟩=>?_
  refine thn (ho pins s1 σ H1 v y u w _ I1 r r1 q1) fun z s2 ⟨zv,H2,I2,r2,q2⟩=>?_
  exact zeb I2 hN hi hx r2 (fun s3 I3=>⟨_,H2,I3,q2⟩) hf
 rcases l with ⟨hk,hm⟩ | ⟨hk,c,hc,hcell⟩
 ·exact wpAny_loadName_local I.ok.kind hk hn hm go
 ·rcases hk with hk | hk
  ·exact wpAny_loadName_cell I.ok.kind hk hc hcell go
  ·rcases hx with k | k
   ·have:X.env.scope.names.lookup x=some .free:=hk
    rw [k] at this; cases this
   ·have:X.env.scope.names.lookup x=some .free:=hk
    rw [k] at this; cases this
noncomputable def tAugS (to ti te:TE) (tget:V->V->Hp->VK->Prop) (tip:TIp) (tset:TSet):TS:=fun D σ H=>to σ H fun o H1=>ti σ H1 fun i H2=>tget o i H2 fun x H3=>te σ H3 fun y H4=>tip x y H4 fun z H5=>tset o i z H5 fun H6=>D.nx σ H6
noncomputable def PGet (X:Cx) (t:V->V->Hp->VK->Prop):Prop:=
 ∀ (pins:List (Addr×Obj)) (s:Shared) (σ:St) (H:Hp) (o i:V) (ov iv:Value) (Q:VK),Inv X pins σ H s->RelV o ov->RelV i iv->t o i H Q->
   wpAny (model X.prog X.w) X.A (getItem ov iv) (EP X pins σ Q) X.xe s
theorem zjZ {o i e:Expr} {to ti te:TE} {tget:V->V->Hp->VK->Prop} {tip:TIp} {tset:TSet} {op:Operator} {tpos:Pos} (ho:PE X o to) (hi:PE X i ti) (hg:PGet X tget) (he:PE X e te) (hp:PIp X op tip) (hs:PSet X tset)
  (ha:∀ ov iv new,augStore i ov iv new=(do holding [new,ov,iv] (setItem ov iv new); release [new,ov,iv] []; pure .next):=by intros; rfl):PS X (.AugAssign (.Subscript o i tpos) op e pos) (tAugS to ti te tget tip tset):=by
 intro pins s σ H D I h
 refine wpAny_AugAssign_SubscriptAny (thn (ho pins s σ H _ I h) fun ov s1 ⟨x1,H1,I1,r1,q1⟩=>?_) ha
 refine thn (hi pins s1 σ H1 _ I1 q1) fun iv s2 ⟨x2,H2,I2,r2,q2⟩=>?_
 refine thn (hg pins s2 σ H2 x1 x2 ov iv _ I2 r1 r2 q2) fun old s3 ⟨x3,H3,I3,r3,q3⟩=>?_
 refine thn (he pins s3 σ H3 _ I3 q3) fun v s4 ⟨x4,H4,I4,r4,q4⟩=>?_
 refine thn (hp pins s4 σ H4 x3 x4 old v _ I4 r3 r4 q4) fun new s5 ⟨x5,H5,I5,r5,q5⟩=>?_
 exact thn (hs pins s5 σ H5 x1 x2 x5 ov iv new _ I5 r1 r2 r5 q5) fun _ s6 ⟨H6,I6,q6⟩=>⟨σ,H6,I6,q6⟩
noncomputable def ipI (f:Int->Int->Int):TIp:=fun x y H Q=>∃ i j,x=.int i /\ y=.int j /\ Q (.int (f i j)) H
theorem ziA:PIp X .Add (ipI fun i j=>i + j):=by
 intro pins s σ H x y v u Q I r1 r2 h
 obtain ⟨i,j,e1,e2,q⟩:=h
 subst e1; subst e2
 obtain ⟨t,rfl⟩:=r1
 obtain ⟨t',rfl⟩:=r2
 exact iadd_int ⟨.int _,H,I.tok _,⟨_,rfl⟩,q⟩
end
section
variable {X:Cx} {pos:Pos}
noncomputable def tWhile (c:TT) (tb:TS):TS:=fun D σ H=>∃ W:Nat->St->Hp->Prop,(∃ m,W m σ H) /\ ∀ m σ H,W m σ H->
 c σ H fun b H1=>if b=true then ∃ N:St->Hp->Prop,(∀ σ' H',N σ' H'->∃ m',m' < m /\ W m' σ' H') /\ tb { D with nx:=N,ct:=N,bk:=D.nx } σ H1 else D.nx σ H1
theorem zmE {c:Expr} {body:List Stmt} {tc:TT} {tb:TS} (hp:PassesOwn (model X.prog X.w) X.A X.env X.xe) (hc:PT X c tc) (hb:PSs X body tb):PS X (.While c body [] pos) (tWhile tc tb):=by
 intro pins s σ H D I h
 obtain ⟨W,⟨m0,w0⟩,turn⟩:=h
 refine wpAny_While (codeAny_whileLoop (fun n s'=>∃ σ' H',Inv X pins σ' H' s' /\ W n σ' H') ?_ m0 ⟨σ,H,I,w0⟩)
 rintro n s1 ⟨σ1,H1,I1,w1⟩
 refine wpAny_passesOwn hp (thn (hc pins s1 σ1 H1 _ I1 (turn n σ1 H1 w1)) fun b s2 ⟨H2,I2,q2⟩=>?_)
 cases b with
 | true=>
   obtain ⟨N,hN,q2⟩:=q2
   rw [if_pos rfl]
   refine wpAny_passesOwn hp (thn (hb pins s2 σ1 H2 _ I2 q2) fun f s3 q3=>?_)
   cases f with
   | next=>
     obtain ⟨σ3,H3,I3,n3⟩:=q3
     obtain ⟨m',hm,w3⟩:=hN σ3 H3 n3
     exact ⟨m',hm,σ3,H3,I3,w3⟩
   | cont=>
     obtain ⟨σ3,H3,I3,n3⟩:=q3
     obtain ⟨m',hm,w3⟩:=hN σ3 H3 n3
     exact ⟨m',hm,σ3,H3,I3,w3⟩
   | brk=>exact q3
   | ret v=>exact q3
 | false=>
   rw [if_neg Bool.false_ne_true]
   exact wpAny_execs_nil ⟨σ1,H2,I2,q2⟩
end
structure It where
 go:Nat->Hp->Prop
 yld:Nat->Hp->V->Hp->Prop
 stop:Nat->Hp->Prop
noncomputable def FpOk (X:Cx) (pins:List (Addr×Obj)) (H:Hp) (b:Addr):Prop:=
 H b=none /\ b≠X.env.locals /\ b∉X.fs /\ (b∈X.ex \/ X.s₀.heap.objs.size<=b) /\ (∀ x c,X.env.cells.lookup x=some c->c≠b) /\ ∀ p∈X.pn ++ pins,p.1≠b
theorem Inv.fpOk {X:Cx} {pins:List (Addr×Obj)} {σ:St} {H H':Hp} {s:Shared} {b:Addr} (I:Inv X pins σ H s) (hb:s.heap.objs.size<=b) (hn:H' b=none):FpOk X pins H' b:=by
 refine ⟨hn,Nat.ne_of_gt (Nat.lt_of_lt_of_le I.lt hb),I.nofs hb,.inr (Nat.le_trans I.sz hb),fun x c e z=>?_,fun p hp z=>?_⟩
 ·obtain ⟨v,q⟩:=I.cell x c e
  exact absurd (Nat.lt_of_lt_of_le q.lt (by rw [z]; exact hb)) (Nat.lt_irrefl _)
 ·exact absurd (Nat.lt_of_lt_of_le (Heap.lt_size (I.pin p hp).1) (by rw [z]; exact hb)) (Nat.lt_irrefl _)
noncomputable abbrev calmG (X:Cx):Prop:=X.calm=true
structure TurnG (gd:Cx->Prop) (P:Program) (w:World) (K:PySem.W.Frag) (tg:Expr) (J:It) (fp:List Addr) (it:Addr) (tn:Nat->Heap->Prop):Prop where
 mem:it∈fp
 obj:∀ i h,tn i h->∀ b∈fp,∃ o,h.get? b=some o /\ ∀ v,o.data≠.cell v
 keep:∀ i h h',tn i h->(∀ b∈fp,∀ o,h.get? b=some o->h'.get? b=some o)->tn i h'
 item:∀ (X:Cx),X.prog=P->X.w=w->X.K=K->gd X->∀ (i:Nat) (pins:List (Addr×Obj)) (s:Shared) (σ:St) (H:Hp) (E:Value->Shared->Prop),Inv X pins σ H s->(∀ b∈fp,FpOk X pins H b)->tn i s.heap->J.go i H->
  wpAny (model P w) X.A (pyNext (.ref it)) (fun r s1=>∃ u,r=some u /\
   wpAny (model P w) X.A (letOwnedTupleGo tg (.ref it) u) (fun _ s2=>∃ x H',Inv X pins σ H' s2 /\ RelV x u /\ J.yld i H x H' /\ tn (i + 1) s2.heap /\ ∀ b∈fp,H' b=none) E s1) E s
 done:∀ (X:Cx),X.prog=P->X.w=w->X.K=K->gd X->∀ (i:Nat) (pins:List (Addr×Obj)) (s:Shared) (σ:St) (H:Hp) (E:Value->Shared->Prop),Inv X pins σ H s->(∀ b∈fp,FpOk X pins H b)->tn i s.heap->J.stop i H->
  wpAny (model P w) X.A (pyNext (.ref it)) (fun r s1=>r=none /\ Inv X pins σ H s1) E s
 self:∀ (A:Around) (i:Nat) (s:Shared) (Q:Value->Shared->Prop) (E:Value->Shared->Prop),tn i s.heap->Q (.ref it) s->wpAny (model P w) A (pyIter (.ref it)) Q E s
noncomputable abbrev Turn:=TurnG calmG
noncomputable abbrev TI:=St->Hp->(It->Hp->Prop)->Prop
noncomputable def PIEG (gd:Cx->Prop) (X:Cx) (pins:List (Addr×Obj)) (σ:St) (tg:Expr) (R:It->Hp->Prop) (itv:Value) (s2:Shared):Prop:=
 ∃ (it:Addr) (fp:List Addr) (tn:Nat->Heap->Prop) (J:It) (H':Hp),itv=.ref it /\ Inv X pins σ H' s2 /\ TurnG gd X.prog X.w X.K tg J fp it tn /\ tn 0 s2.heap /\ (∀ b∈fp,FpOk X pins H' b) /\ R J H'
noncomputable abbrev PIE:=PIEG calmG
noncomputable def PIG (gd:Cx->Prop) (X:Cx) (tg iter:Expr) (wi:TI):Prop:=
 ∀ (pins:List (Addr×Obj)) (s:Shared) (σ:St) (H:Hp) (R:It->Hp->Prop),Inv X pins σ H s->wi σ H R->
   wpAny (model X.prog X.w) X.A (eval iter X.env) (fun v s1=>wpAny (model X.prog X.w) X.A (pyIter v) (PIEG gd X pins σ tg R) X.xe s1) X.xe s
noncomputable abbrev PI:=PIG calmG
theorem zn9 {M:Model} {A:Around} {E:Value->Shared->Prop} {s:Shared} {tg:Expr} {it:Addr} {u:Value} {o:Obj} {n:String} {vs:Array Value} {Q:Unit->Shared->Prop} (ho:s.heap.get? it=some o) (hc:o.cls=.type n) (hd:o.data=.fields vs)
  (hn:["enumerate","zip","dict_itemiterator","dict_reverseitemiterator","odict_iterator","itertools.zip_longest","itertools.pairwise"].contains n=false) (hQ:Q () s):wpAny M A (letOwnedTupleGo tg (.ref it) u) Q E s:=by
 unfold letOwnedTupleGo
 cases tg <;> first
  | exact wpAny_pure hQ
  | (cases u <;> first
    | exact wpAny_pure hQ
    | (refine wpAny_bind (wpAny_load ho ?_)
       rw [hc,hd]
       show wpAny M A (if (["enumerate","zip","dict_itemiterator","dict_reverseitemiterator","odict_iterator","itertools.zip_longest","itertools.pairwise"].contains n && vs[0]? == some (rawInt _))=true then _ else _) Q E s
       rw [if_neg (by intro h; rw [hn,Bool.false_and] at h; cases h)]
       exact wpAny_pure hQ))
noncomputable def Itl (K:PySem.W.Frag) (a:Addr):It:=
 ⟨fun i H=>∃ xs x,SqL K H a xs /\ xs[i]?=some x,fun i H x H'=>H'=H /\ ∀ xs,SqL K H a xs->xs[i]?=some x,fun i H=>∃ xs,SqL K H a xs /\ xs.length<=i⟩
noncomputable def Itt (K:PySem.W.Frag) (a:Addr):It:=
 ⟨fun i H=>∃ xs x,SqT K H a xs /\ xs[i]?=some x,fun i H x H'=>H'=H /\ ∀ xs,SqT K H a xs->xs[i]?=some x,fun i H=>∃ xs,SqT K H a xs /\ xs.length<=i⟩
noncomputable def Itr (lo:Int) (n:Nat):It:=⟨fun i _=>i < n,fun i H x H'=>H'=H /\ x=.int (lo + i),fun i _=>n<=i⟩
theorem zlg {P:Program} {w:World} {K:PySem.W.Frag} {tg:Expr} (a it:Addr):Turn P w K tg (Itl K a) [it] it (fun i h=>h.IsListIter it a i) where
 mem:=by simp
 obj:=fun i h st b hb=>by
  have e:b=it:=by simpa using hb
  subst e
  obtain ⟨o,e,c,d⟩:=st
  exact ⟨o,e,fun v z=>by rw [d] at z; cases z⟩
 keep:=fun i h h' st k=>st.at fun o e=>k it (by simp) o e
 item:=by
  intro X hP hw hK hc i pins s σ H E I hf st hg
  subst hP hw hK
  obtain ⟨xs,x,hq,hx⟩:=hg
  obtain ⟨its,rv,p,hz⟩:=I.list hq
  obtain ⟨u,hu,ru⟩:=rv.get hx
  obtain ⟨f0,f1,f2,f3,f4,f5⟩:=hf it (by simp)
  refine wpAny_pyNext_list_item st p.isList (x:=u) (by simpa using hu) fun h' st' sb=>?_
  have I1:Inv X pins σ H { s with heap:=h' }:=I.turned (t':=s.toks) (fun b o hb e=>(sb.2 b hb).trans e) f0 f1 f3 f4 f5
  obtain ⟨o,e,c,d⟩:=id st'
  exact ⟨u,rfl,zn9 (s:={ s with heap:=h' }) e c d (by decide) ⟨x,H,I1,ru,⟨rfl,fun ys hy=>by rw [I.list_inj hy hq]; exact hx⟩,st',fun b hb=>(hf b hb).1⟩⟩
 done:=by
  intro X hP hw hK hc i pins s σ H E I hf st hg
  subst hP hw hK
  obtain ⟨xs,hq,hx⟩:=hg
  obtain ⟨its,rv,p,hz⟩:=I.list hq
  obtain ⟨f0,f1,f2,f3,f4,f5⟩:=hf it (by simp)
  have hl:=rv.length
  exact wpAny_pyNext_list_end (I.ok.hd hc) st p.isList (by simp; omega) fun h' eb=>⟨rfl,I.turned (t':=s.toks) (fun b o hb e=>eb b o hb e) f0 f1 f3 f4 f5⟩
 self:=fun _ _ _ _ _ st h=>wpAny_pyIter_listiter st h
theorem zi8 {P:Program} {w:World} {K:PySem.W.Frag} {tg:Expr} (a it:Addr):Turn P w K tg (Itt K a) [it] it (fun i h=>h.IsTupleIter it a i) where
 mem:=by simp
 obj:=fun i h st b hb=>by
  have e:b=it:=by simpa using hb
  subst e
  obtain ⟨o,e,c,d⟩:=st
  exact ⟨o,e,fun v z=>by rw [d] at z; cases z⟩
 keep:=fun i h h' st k=>st.at fun o e=>k it (by simp) o e
 item:=by
  intro X hP hw hK hc i pins s σ H E I hf st hg
  subst hP hw hK
  obtain ⟨xs,x,hq,hx⟩:=hg
  obtain ⟨its,rv,p,hz⟩:=I.tuple hq
  obtain ⟨u,hu,ru⟩:=rv.get hx
  obtain ⟨f0,f1,f2,f3,f4,f5⟩:=hf it (by simp)
  refine wpAny_pyNext_tuple_item st (show s.heap.IsTuple a its.toArray from p) (x:=u) (by simpa using hu) fun h' st' sb=>?_
  have I1:Inv X pins σ H { s with heap:=h' }:=I.turned (t':=s.toks) (fun b o hb e=>(sb.2 b hb).trans e) f0 f1 f3 f4 f5
  obtain ⟨o,e,c,d⟩:=id st'
  exact ⟨u,rfl,zn9 (s:={ s with heap:=h' }) e c d (by decide) ⟨x,H,I1,ru,⟨rfl,fun ys hy=>by rw [I.tuple_inj hy hq]; exact hx⟩,st',fun b hb=>(hf b hb).1⟩⟩
 done:=by
  intro X hP hw hK hc i pins s σ H E I hf st hg
  subst hP hw hK
  obtain ⟨xs,hq,hx⟩:=hg
  obtain ⟨its,rv,p,hz⟩:=I.tuple hq
  obtain ⟨f0,f1,f2,f3,f4,f5⟩:=hf it (by simp)
  have hl:=rv.length
  exact wpAny_pyNext_tuple_end (I.ok.hd hc) st (show s.heap.IsTuple a its.toArray from p) (by simp; omega) fun h' eb=>⟨rfl,I.turned (t':=s.toks) (fun b o hb e=>eb b o hb e) f0 f1 f3 f4 f5⟩
 self:=fun _ _ _ _ _ st h=>wpAny_pyIter_tupleiter st h
theorem zje {P:Program} {w:World} {K:PySem.W.Frag} {tg:Expr} (it:Addr) (lo:Int) (n:Nat):Turn P w K tg (Itr lo n) [it] it (fun i h=>IsRangeIter h it (lo + (i:Nat) * 1) ((n:Int) - (i:Nat)) 1) where
 mem:=by simp
 obj:=fun i h st b hb=>by
  have e:b=it:=by simpa using hb
  subst e
  exact ⟨_,st,fun v z=>by
   have z':Data.fields _=Data.cell v:=z
   cases z'⟩
 keep:=fun i h h' st k=>k it (by simp) _ st
 item:=by
  intro X hP hw hK hc i pins s σ H E I hf st hg
  subst hP hw hK
  obtain ⟨f0,f1,f2,f3,f4,f5⟩:=hf it (by simp)
  have W:=Walks.range (prog:=X.prog) (w:=X.w) (I.ok.hd hc) it lo 1 n
  refine W.item i s _ _ hg st fun v h' tk hv st' kk=>?_
  obtain ⟨t,rfl⟩:=hv
  have I1:Inv X pins σ H { s with heap:=h',toks:=tk }:=I.turned (fun b o hb e=>kk b o (by simpa using hb) e) f0 f1 f3 f4 f5
  refine ⟨_,rfl,zn9 (s:={ s with heap:=h',toks:=tk }) (n:="range_iterator") st' rfl rfl (by decide) ⟨.int (lo + i),H,I1,⟨t,?_⟩,⟨rfl,rfl⟩,st',fun b hb=>(hf b hb).1⟩⟩
  rw [Int.mul_one]
 done:=by
  intro X hP hw hK hc i pins s σ H E I hf st hg
  subst hP hw hK
  obtain ⟨f0,f1,f2,f3,f4,f5⟩:=hf it (by simp)
  exact wpAny_pyNext_range_end (I.ok.hd hc) st (by have:n<=i:=hg; omega) fun h' eb=>⟨rfl,I.turned (t':=s.toks) (fun b o hb e=>eb b o hb e) f0 f1 f3 f4 f5⟩
 self:=fun _ _ _ _ _ st h=>wpAny_pyIter_rangeiter st h
end L2
namespace L2
open PySem PySem.Spec PyProof.Rows
section
variable {X:Cx} {tg:Expr}
theorem ziS {pins:List (Addr×Obj)} {σ:St} {H:Hp} {s:Shared} {R:It->Hp->Prop} {E:Value->Shared->Prop} {lo hi:Int} {t u v:Tok} {tk:Nat} (I:Inv X pins σ H s) (h1: -(2 ^ 62)<=lo) (h2:lo < 2 ^ 62) (h3: -(2 ^ 62)<=hi) (h4:hi < 2 ^ 62)
  (q:R (Itr lo (hi - lo).toNat) H):wpAny (model X.prog X.w) X.A (pyIter (.ref s.heap.objs.size)) (PIE X pins σ tg R) E { s with heap:=s.heap.push { cls:=.type "range",data:=.fields #[.int lo t,.int hi u,.int 1 v] },toks:=tk }:=by
 refine wpAny_pyIter_range (IsRange.new ..) (small_one h1 h2 h3 h4) ?_
 have I1:Inv X pins σ H { s with heap:=s.heap.push { cls:=.type "range",data:=.fields #[.int lo t,.int hi u,.int 1 v] },toks:=tk }:=I.kept fun b o e=>Heap.get?_push_of_some _ e
 refine ⟨(s.heap.push { cls:=.type "range",data:=.fields #[.int lo t,.int hi u,.int 1 v] }).objs.size,[(s.heap.push { cls:=.type "range",data:=.fields #[.int lo t,.int hi u,.int 1 v] }).objs.size],_,_,H,rfl,
  I1.kept (t':=tk) fun b o e=>Heap.get?_push_of_some _ e,zje _ lo (hi - lo).toNat,?_,fun b hb=>?_,q⟩
 ·have e1:lo + ((0:Nat):Int) * 1=lo:=by simp
  have e2:(((hi - lo).toNat:Nat):Int) - ((0:Nat):Int)=Builtin.Range.rangeSize lo hi 1:=by rw [rangeSize_one]; split <;> omega
  show IsRangeIter _ _ (lo + ((0:Nat):Int) * 1) ((((hi - lo).toNat:Nat):Int) - ((0:Nat):Int)) 1
  rw [e1,e2]
  exact Heap.get?_push_size _ rfl
 ·have e:b=(s.heap.push { cls:=.type "range",data:=.fields #[.int lo t,.int hi u,.int 1 v] }).objs.size:=by simpa using hb
  subst e
  exact I1.fpOk (Nat.le_refl _) (I1.hok.fresh (Nat.le_refl _))
noncomputable def iRng1 (ta:TA):TI:=fun σ H R=>ta σ H fun vs H1=>∃ j:Int,vs=[.int j] /\ -(2 ^ 62)<=j /\ j < 2 ^ 62 /\ R (Itr 0 j.toNat) H1
noncomputable def iRng2 (ta:TA):TI:=fun σ H R=>ta σ H fun vs H1=>∃ i j:Int,vs=[.int i,.int j] /\ (-(2 ^ 62)<=i /\ i < 2 ^ 62 /\ -(2 ^ 62)<=j /\ j < 2 ^ 62) /\ R (Itr i (j - i).toNat) H1
theorem zkp {a:Expr} {ta:TA} {p pos:Pos} (hg:Gl X "range") (hm:X.mg "range"=none) (ha:PA X [a] ta) (hs:starEach [a] X.env=[(false,eval a X.env)]:=by rfl):PI X tg (.Call (.Name "range" p) [a] [] pos) (iRng1 ta):=by
 intro pins s σ H R I h
 refine Call_ (zdk I hg hm boot_range (PyProof.Rows.callWith_type1 (thn (ha pos pins s σ H _ I h) fun us s1 ⟨vs,H1,I1,r1,q1⟩=>?_) hs rfl))
 obtain ⟨j,e,q1,q2,q⟩:=q1
 subst e
 cases r1 with
 | cons r rr=>
   cases rr
   obtain ⟨t,rfl⟩:=r
   exact call_range_1 (ziS I1 (by omega) (by omega) q1 q2 (by simpa using q))
theorem zjQ {a b:Expr} {ta:TA} {p pos:Pos} (hg:Gl X "range") (hm:X.mg "range"=none) (ha:PA X [a,b] ta) (hs:starEach [a,b] X.env=[(false,eval a X.env),(false,eval b X.env)]:=by rfl) (hs2:starEach [b] X.env=[(false,eval b X.env)]:=by rfl):
  PI X tg (.Call (.Name "range" p) [a,b] [] pos) (iRng2 ta):=by
 intro pins s σ H R I h
 refine Call_ (zdk I hg hm boot_range (PyProof.Rows.callWith_type1 (thn (ha pos pins s σ H _ I h) fun us s1 ⟨vs,H1,I1,r1,q1⟩=>?_) (by rw [hs,hs2]) (by rw [hs2]; rfl)))
 obtain ⟨i,j,e,⟨q1,q2,q3,q4⟩,q⟩:=q1
 subst e
 cases r1 with
 | cons r rr=>
   cases rr with
   | cons r' rr=>
     cases rr
     obtain ⟨t,rfl⟩:=r
     obtain ⟨t',rfl⟩:=r'
     exact call_range_2 (ziS I1 q1 q2 q3 q4 q)
noncomputable def tFor (wi:TI) (g:TG) (tb:TS):TS:=fun D σ H=>wi σ H fun J H1=>∃ W:Nat->Nat->St->Hp->Prop,(∃ m,W 0 m σ H1) /\ ∀ i m σ H,W i m σ H->
 (J.stop i H /\ D.nx σ H) \/ (J.go i H /\ ∃ N:St->Hp->Prop,(∀ σ' H',N σ' H'->∃ m',m' < m /\ W (i + 1) m' σ' H') /\ ∀ x H',J.yld i H x H'->g x σ H' fun σ2 H2=>tb { D with nx:=N,ct:=N,bk:=D.nx } σ2 H2)
noncomputable def pinsAt (fp:List Addr) (h:Heap):List (Addr×Obj):=fp.filterMap fun b=>(h.get? b).map fun o=>(b,o)
theorem zbI {fp:List Addr} {h:Heap} {b:Addr} {o:Obj} (hb:b∈fp) (e:h.get? b=some o):(b,o)∈pinsAt fp h:=List.mem_filterMap.mpr ⟨b,hb,by rw [e]; rfl⟩
theorem zgC {fp:List Addr} {h:Heap} {p:Addr×Obj} (hp:p∈pinsAt fp h):p.1∈fp /\ h.get? p.1=some p.2:=by
 obtain ⟨b,hb,e⟩:=List.mem_filterMap.mp hp
 cases q:h.get? b with
 | none=>rw [q] at e; cases e
 | some o=>
   rw [q] at e
   have e':(b,o)=p:=Option.some.inj e
   subst e'
   exact ⟨hb,q⟩
theorem Inv.pinned {pins:List (Addr×Obj)} {σ:St} {H:Hp} {s:Shared} {fp:List Addr} (I:Inv X pins σ H s) (hf:∀ b∈fp,FpOk X pins H b) (ho:∀ b∈fp,∃ o,s.heap.get? b=some o /\ ∀ v,o.data≠.cell v):Inv X (pins ++ pinsAt fp s.heap) σ H s:=
 I.pins_of fun p hp=>(List.mem_append.mp hp).elim (fun z=>I.pin p (List.mem_append_right _ z)) fun z=>by
  obtain ⟨hb,e⟩:=zgC z
  obtain ⟨f0,f1,f2,_⟩:=hf p.1 hb
  obtain ⟨o,e',d⟩:=ho p.1 hb
  rw [e] at e'; cases e'
  exact ⟨e,f0,f1,f2,d⟩
theorem Inv.unpinned {pins pl:List (Addr×Obj)} {σ:St} {H:Hp} {s:Shared} (I:Inv X (pins ++ pl) σ H s):Inv X pins σ H s:=I.pins_of fun p hp=>I.pin p (List.mem_append_right _ (List.mem_append_left _ hp))
theorem zpA {iter:Expr} {body:List Stmt} {wi:TI} {g:TG} {tb:TS} {pos:Pos} (hp:PassesOwn (model X.prog X.w) X.A X.env X.xe) (hc:X.calm=true) (hi:PI X tg iter wi) (hg:PG X tg g) (hb:PSs X body tb)
  (hs:∀ x,foldedSetIterable iter X.env x=pure x:=by intro _; rfl):PS X (.For tg iter body [] pos) (tFor wi g tb):=by
 intro pins s σ H D I h
 refine wpAny_For (thn (hi pins s σ H _ I h) fun v s1 h1=>thn h1 fun itv s2 h2=>?_) hs
 obtain ⟨it,fp,tn,J,H2,e,I2,T,st2,f2,W,⟨m0,w0⟩,turn⟩:=h2
 subst e
 have stat:∀ {H':Hp},(∀ b∈fp,H' b=none)->∀ b∈fp,FpOk X pins H' b:=fun hn b hb=>⟨hn b hb,(f2 b hb).2⟩
 refine codeAny_forLoop_any (fun n s'=>∃ i σ' H',Inv X pins σ' H' s' /\ tn i s'.heap /\ (∀ b∈fp,H' b=none) /\ W i n σ' H') ?_ m0 ⟨0,σ,H2,I2,st2,fun b hb=>(f2 b hb).1,w0⟩
 rintro n s3 ⟨i,σ3,H3,I3,st3,fr3,w3⟩
 rcases turn i n σ3 H3 w3 with ⟨stop,qn⟩ | ⟨go,N,hN,step⟩
 ·refine wpAny_passesOwn hp (thn (T.done X rfl rfl rfl hc i pins s3 σ3 H3 X.xe I3 (stat fr3) st3 stop) fun r s4 ⟨hr,I4⟩=>?_)
  subst hr
  exact wpAny_execs_nil ⟨σ3,H3,I4,qn⟩
 ·refine wpAny_passesOwn hp (thn (T.item X rfl rfl rfl hc i pins s3 σ3 H3 X.xe I3 (stat fr3) st3 go) fun r s4 ⟨u,hr,h4⟩=>?_)
  subst hr
  refine wpAny_passesOwn hp (thn h4 fun _ s5 ⟨x,H5,I5,r5,y5,st5,fr5⟩=>?_)
  have I5':=I5.pinned (stat fr5) (T.obj _ _ st5)
  refine wpAny_passesOwn hp (thn (hg _ s5 σ3 H5 x u _ I5' r5 (step x H5 y5)) fun _ s6 ⟨σ6,H6,I6,q6⟩=>?_)
  refine wpAny_passesOwn hp (thn (hb _ s6 σ6 H6 _ I6 q6) fun f s7 q7=>?_)
  have again:∀ {σ7:St} {H7:Hp},Inv X (pins ++ pinsAt fp s5.heap) σ7 H7 s7->N σ7 H7->∃ m,m < n /\ ∃ i σ' H',Inv X pins σ' H' s7 /\ tn i s7.heap /\ (∀ b∈fp,H' b=none) /\ W i m σ' H':=fun {σ7 H7} I7 n7=>by
   obtain ⟨m',hm,w7⟩:=hN σ7 H7 n7
   refine ⟨m',hm,i + 1,σ7,H7,I7.unpinned,T.keep _ _ _ st5 fun b hb o e=>(I7.pin (b,o) (List.mem_append_right _ (List.mem_append_right _ (zbI hb e)))).1,fun b hb=>?_,w7⟩
   obtain ⟨o,e,d⟩:=T.obj _ _ st5 b hb
   exact (I7.pin (b,o) (List.mem_append_right _ (List.mem_append_right _ (zbI hb e)))).2.1
  cases f with
  | next=>obtain ⟨σ7,H7,I7,n7⟩:=q7; exact again I7 n7
  | cont=>obtain ⟨σ7,H7,I7,n7⟩:=q7; exact again I7 n7
  | brk=>obtain ⟨σ7,H7,I7,q7⟩:=q7; exact ⟨σ7,H7,I7.unpinned,q7⟩
  | ret v=>obtain ⟨x7,σ7,H7,I7,r7,q7⟩:=q7; exact ⟨x7,σ7,H7,I7.unpinned,r7,q7⟩
end
end L2
namespace L2
open PySem PySem.Spec PyProof.Rows
noncomputable abbrev R2:=V->V->Hp->VK->Prop
noncomputable def OpR (X:Cx) (f:Value->Value->Sem Value) (r:R2):Prop:=
 ∀ (pins:List (Addr×Obj)) (s:Shared) (σ:St) (H:Hp) (x y:V) (v u:Value) (Q:VK),Inv X pins σ H s->RelV x v->RelV y u->r x y H Q->
   wpAny (model X.prog X.w) X.A (f v u) (EP X pins σ Q) X.xe s
noncomputable def UnR (X:Cx) (f:Value->Sem Value) (r:V->Hp->VK->Prop):Prop:=
 ∀ (pins:List (Addr×Obj)) (s:Shared) (σ:St) (H:Hp) (x:V) (v:Value) (Q:VK),Inv X pins σ H s->RelV x v->r x H Q->
   wpAny (model X.prog X.w) X.A (f v) (EP X pins σ Q) X.xe s
noncomputable def CallR (X:Cx) (f:Value) (r:List V->Hp->VK->Prop):Prop:=
 ∀ (pins:List (Addr×Obj)) (s:Shared) (σ:St) (H:Hp) (xs:List V) (us:List Value) (Q:VK),Inv X pins σ H s->Vals xs us->r xs H Q->
   wpAny (model X.prog X.w) X.A (call f us) (EP X pins σ Q) X.xe s
noncomputable def TruR (X:Cx) (r:V->Hp->(Bool->Hp->Prop)->Prop):Prop:=
 ∀ (pins:List (Addr×Obj)) (s:Shared) (σ:St) (H:Hp) (x:V) (v:Value) (Q:Bool->Hp->Prop),Inv X pins σ H s->RelV x v->r x H Q->
   wpAny (model X.prog X.w) X.A (truthy v) (TP X pins σ Q) X.xe s
noncomputable def tOp (r:R2) (ta tb:TE):TE:=fun σ H Q=>ta σ H fun x H1=>tb σ H1 fun y H2=>r x y H2 Q
noncomputable def tUn (r:V->Hp->VK->Prop) (ta:TE):TE:=fun σ H Q=>ta σ H fun x H1=>r x H1 Q
noncomputable def rI (C:Int->Int->Prop) (g:Int->Int->V):R2:=fun x y H Q=>∃ i j,x=.int i /\ y=.int j /\ C i j /\ Q (g i j) H
noncomputable def rI0 (g:Int->Int->V):R2:=fun x y H Q=>∃ i j,x=.int i /\ y=.int j /\ Q (g i j) H
noncomputable def rU (g:Int->V):V->Hp->VK->Prop:=fun x H Q=>∃ i,x=.int i /\ Q (g i) H
section
variable {X:Cx} {a b c:Expr} {ta tb tc:TE} {pos:Pos}
theorem binT (ha:PE X a ta) (hb:PE X b tb) {pins:List (Addr×Obj)} {s:Shared} {σ:St} {H:Hp} {R:V->V->Hp->Prop} (I:Inv X pins σ H s)
  (h:ta σ H fun x H1=>tb σ H1 fun y H2=>R x y H2) {Q:Value->Shared->Prop} {f:Value->Value->Sem Value}
  (hf:∀ v u s2 x y H2,Inv X pins σ H2 s2->RelV x v->RelV y u->R x y H2->wpAny (model X.prog X.w) X.A (f v u) Q X.xe s2):
  wpAny (model X.prog X.w) X.A (eval a X.env) (fun v s₁=>wpAny (model X.prog X.w) X.A (eval b X.env) (fun u s₂=>wpAny (model X.prog X.w) X.A (f v u) Q X.xe s₂) X.xe s₁) X.xe s:=by
 refine thn (ha pins s σ H _ I h) fun v s1 ⟨x,H1,I1,r1,q1⟩=>?_
 refine thn (hb pins s1 σ H1 _ I1 q1) fun u s2 ⟨y,H2,I2,r2,q2⟩=>?_
 exact hf v u s2 x y H2 I2 r1 r2 q2
theorem zo1 {op:Operator} {r:R2} (ho:OpR X (binaryOp op) r) (ha:PE X a ta) (hb:PE X b tb):PE X (.BinOp a op b pos) (tOp r ta tb):=by
 intro pins s σ H Q I h
 exact wpAny_BinOp (binT ha hb I h fun v u s2 x y H2 I2 rx ry q=>ho pins s2 σ H2 x y v u Q I2 rx ry q)
theorem zqT {op:UnaryOp} {r:V->Hp->VK->Prop} (ho:UnR X (unaryOp op) r) (ha:PE X a ta):PE X (.UnaryOp op a pos) (tUn r ta):=by
 intro pins s σ H Q I h
 exact UnaryOp_ (thn (ha pins s σ H _ I h) fun v s1 ⟨x,H1,I1,r1,q1⟩=>ho pins s1 σ H1 x v Q I1 r1 q1)
theorem opI {f:Value->Value->Sem Value} {C:Int->Int->Prop} {g:Int->Int->Int}
  (rule:∀ (i j:Int) (t u:Tok) (s:Shared) (Q:Value->Shared->Prop) (E:Value->Shared->Prop),C i j->Q (.int (g i j) s.toks) { s with toks:=s.toks + 1 }->wpAny (model X.prog X.w) X.A (f (.int i t) (.int j u)) Q E s):
  OpR X f (rI C fun i j=>.int (g i j)):=by
 intro pins s σ H x y v u Q I rx ry h
 obtain ⟨i,j,rfl,rfl,hc,q⟩:=h
 obtain ⟨t,rfl⟩:=rx
 obtain ⟨t',rfl⟩:=ry
 exact rule i j t t' s _ _ hc ⟨.int (g i j),H,I.tok _,⟨_,rfl⟩,q⟩
theorem opI0 {f:Value->Value->Sem Value} {g:Int->Int->Int}
  (rule:∀ (i j:Int) (t u:Tok) (s:Shared) (Q:Value->Shared->Prop) (E:Value->Shared->Prop),Q (.int (g i j) s.toks) { s with toks:=s.toks + 1 }->wpAny (model X.prog X.w) X.A (f (.int i t) (.int j u)) Q E s):
  OpR X f (rI0 fun i j=>.int (g i j)):=by
 intro pins s σ H x y v u Q I rx ry h
 obtain ⟨i,j,rfl,rfl,q⟩:=h
 obtain ⟨t,rfl⟩:=rx
 obtain ⟨t',rfl⟩:=ry
 exact rule i j t t' s _ _ ⟨.int (g i j),H,I.tok _,⟨_,rfl⟩,q⟩
theorem opB0 {f:Value->Value->Sem Value} {g:Int->Int->Bool}
  (rule:∀ (i j:Int) (t u:Tok) (s:Shared) (Q:Value->Shared->Prop) (E:Value->Shared->Prop),Q (.bool (g i j)) s->wpAny (model X.prog X.w) X.A (f (.int i t) (.int j u)) Q E s):
  OpR X f (rI0 fun i j=>.bl (g i j)):=by
 intro pins s σ H x y v u Q I rx ry h
 obtain ⟨i,j,rfl,rfl,q⟩:=h
 obtain ⟨t,rfl⟩:=rx
 obtain ⟨t',rfl⟩:=ry
 exact rule i j t t' s _ _ ⟨.bl (g i j),H,I,rfl,q⟩
noncomputable def CPow (i j:Int):Prop:=0<=j /\ j<=1000000 /\ i.natAbs < 2 ^ 64
theorem zi6 (k:Nat):(0:Int)<=2 ^ k:=by
 rw [two_pow_cast]
 exact Int.natCast_nonneg _
theorem zpS:OpR X (binaryOp .Add) (rI0 fun i j=>.int (i + j)):=opI0 fun _ _ _ _ _ _ _ q=>add_int q
theorem zaP:OpR X (binaryOp .Sub) (rI0 fun i j=>.int (i - j)):=opI0 fun _ _ _ _ _ _ _ q=>sub_int q
theorem zY:OpR X (binaryOp .Mod) (rI (fun _ j=>j≠0) fun i j=>.int (i.fmod j)):=opI fun _ _ _ _ _ _ _ hc q=>mod_int' hc q
theorem znA:OpR X (binaryOp .Pow) (rI CPow fun i j=>.int (i ^ j.toNat)):=opI fun _ _ _ _ _ _ _ hc q=>pow_int_small hc.1 hc.2.1 hc.2.2 q
theorem zlw:OpR X (binaryOp .RShift) (rI (fun _ j=>0<=j) fun i j=>.int (i / 2 ^ j.toNat)):=opI fun i j _ _ _ _ _ hc q=>
 rshift_int hc (by rw [Int.fdiv_eq_ediv_of_nonneg i (zi6 _)]; exact q)
theorem unI {f:Value->Sem Value} {g:Int->Int}
  (rule:∀ (i:Int) (t:Tok) (s:Shared) (Q:Value->Shared->Prop) (E:Value->Shared->Prop),Q (.int (g i) s.toks) { s with toks:=s.toks + 1 }->wpAny (model X.prog X.w) X.A (f (.int i t)) Q E s):
  UnR X f (rU fun i=>.int (g i)):=by
 intro pins s σ H x v Q I rx h
 obtain ⟨i,rfl,q⟩:=h
 obtain ⟨t,rfl⟩:=rx
 exact rule i t s _ _ ⟨.int (g i),H,I.tok _,⟨_,rfl⟩,q⟩
theorem zqf:UnR X (unaryOp .USub) (rU fun i=>.int (-i)):=unI fun _ _ _ _ _ q=>neg_int q
end
section
variable {X:Cx} {a b c:Expr} {ta tb tc:TE} {pos:Pos}
theorem zgN:OpR X (compareOp .Lt) (rI0 fun i j=>.bl (decide (i < j))):=opB0 fun _ _ _ _ _ _ _ q=>lt_int q
theorem zfX:OpR X (compareOp .LtE) (rI0 fun i j=>.bl (decide (i<=j))):=opB0 fun _ _ _ _ _ _ _ q=>le_int q
theorem ze7:OpR X (compareOp .Gt) (rI0 fun i j=>.bl (decide (j < i))):=opB0 fun _ _ _ _ _ _ _ q=>gt_int q
theorem zqM:OpR X (compareOp .GtE) (rI0 fun i j=>.bl (decide (j<=i))):=opB0 fun _ _ _ _ _ _ _ q=>ge_int q
theorem OpR.or {f:Value->Value->Sem Value} {r r':R2} (h:OpR X f r) (h':OpR X f r'):OpR X f (fun x y H Q=>r x y H Q \/ r' x y H Q):=by
 intro pins s σ H x y v u Q I rx ry q
 rcases q with q | q
 ·exact h pins s σ H x y v u Q I rx ry q
 ·exact h' pins s σ H x y v u Q I rx ry q
theorem nomark (b:Expr) {op:CmpOp} (h:op≠.In:=by decide) (h2:op≠.NotIn:=by decide):behindInMarks op b=false:=by
 have e1:(op == CmpOp.In)=false:=by cases op <;> first | rfl | exact absurd rfl h
 have e2:(op == CmpOp.NotIn)=false:=by cases op <;> first | rfl | exact absurd rfl h2
 cases b <;> simp [behindInMarks,e1,e2]
theorem zn6 {op:CmpOp} {r:R2} (ho:OpR X (compareOp op) r) (ha:PE X a ta) (hb:PE X b tb) (hm:behindInMarks op b=false):PE X (.Compare a [op] [b] pos) (tOp r ta tb):=by
 intro pins s σ H Q I h
 exact wpAny_Compare1 (binT ha hb I h fun v u s2 x y H2 I2 rx ry q=>ho pins s2 σ H2 x y v u Q I2 rx ry q) hm
noncomputable def tTest (t:TE):TT:=fun σ H Q=>t σ H fun x H'=>∃ k,x=.bl k /\ Q k H'
theorem zpg {op:CmpOp} {r:R2} (ho:OpR X (compareOp op) r) (ha:PE X a ta) (hb:PE X b tb) (hm:behindInMarks op b=false):PT X (.Compare a [op] [b] pos) (tTest (tOp r ta tb)):=by
 intro pins s σ H Q I h
 refine wpAny_isTrue_Compare1 (thn (ha pins s σ H _ I h) fun v s1 ⟨x,H1,I1,r1,q1⟩=>thn (hb pins s1 σ H1 _ I1 q1) fun u s2 ⟨y,H2,I2,r2,q2⟩=>
  thn (ho pins s2 σ H2 x y v u _ I2 r1 r2 q2) fun c s3 ⟨z,H3,I3,r3,k,e,q3⟩=>?_) hm
 subst e
 cases r3
 exact wpAny_truthy_bool ⟨H3,I3,q3⟩
noncomputable def tChain (r r':R2) (ta tb tc:TE):TE:=fun σ H Q=>ta σ H fun x H1=>tb σ H1 fun y H2=>r x y H2 fun z H3=>∃ k,z=.bl k /\
 (if k=true then tc σ H3 fun w' H4=>r' y w' H4 Q else Q (.bl false) H3)
theorem zmO {op op':CmpOp} {r r':R2} (ho:OpR X (compareOp op) r) (ho':OpR X (compareOp op') r') (ha:PE X a ta) (hb:PE X b tb) (hc:PE X c tc)
  (hm:lastMarks [op,op'] [b,c]=false:=by with_unfolding_all rfl):PE X (.Compare a [op,op'] [b,c] pos) (tChain r r' ta tb tc):=by
 intro pins s σ H Q I h
 refine Compare_chain (thn (ha pins s σ H _ I h) fun v s1 ⟨x,H1,I1,r1,q1⟩=>chain_link (thn (hb pins s1 σ H1 _ I1 q1) fun u s2 ⟨y,H2,I2,r2,q2⟩=>
  thn (ho pins s2 σ H2 x y v u _ I2 r1 r2 q2) fun d s3 ⟨z,H3,I3,r3,k,e,q3⟩=>?_)) hm
 subst e
 cases r3
 refine wpAny_truthy_bool ?_
 cases k with
 | false=>exact ite_ff ⟨.bl false,H3,I3,rfl,q3⟩
 | true=>exact ite_tt (chain_last (thn (hc pins s3 σ H3 _ I3 q3) fun w' s4 ⟨z',H4,I4,r4,q4⟩=>ho' pins s4 σ H4 y z' u w' Q I4 r2 r4 q4))
theorem zmT {op op':CmpOp} {r r':R2} (ho:OpR X (compareOp op) r) (ho':OpR X (compareOp op') r') (ha:PE X a ta) (hb:PE X b tb) (hc:PE X c tc)
  (hm:lastMarks [op,op'] [b,c]=false:=by with_unfolding_all rfl):PT X (.Compare a [op,op'] [b,c] pos) (tTest (tChain r r' ta tb tc)):=by
 intro pins s σ H Q I h
 refine isTrue_chain (thn (ha pins s σ H _ I h) fun v s1 ⟨x,H1,I1,r1,q1⟩=>test_link (thn (hb pins s1 σ H1 _ I1 q1) fun u s2 ⟨y,H2,I2,r2,q2⟩=>
  thn (ho pins s2 σ H2 x y v u _ I2 r1 r2 q2) fun d s3 ⟨z,H3,I3,r3,k,e,q3⟩=>?_)) hm
 subst e
 cases r3
 refine wpAny_truthy_bool ?_
 cases k with
 | false=>
   obtain ⟨k',e',q'⟩:=q3
   cases e'
   exact ite_ff ⟨H3,I3,q'⟩
 | true=>
   refine ite_tt (test_last (thn (hc pins s3 σ H3 _ I3 q3) fun w' s4 ⟨z',H4,I4,r4,q4⟩=>thn (ho' pins s4 σ H4 y z' u w' _ I4 r2 r4 q4) fun d' s5 ⟨z2,H5,I5,r5,k2,e2,q5⟩=>?_))
   subst e2
   cases r5
   exact wpAny_truthy_bool ⟨H5,I5,q5⟩
noncomputable def TruV (K:PySem.W.Frag) (x:V) (H:Hp) (k:Bool):Prop:=
 match x with
 | .non=>k=false
 | .bl b=>k=b
 | .int i=>k=(i != 0)
 | .str y=>y.length<=sizeLine /\ k=((y.length:Int) != 0)
 | .byt y=>y.size<=sizeLine /\ k=((y.size:Int) != 0)
 | .ref p=>(∃ xs,SqL K H p xs /\ k= !xs.isEmpty) \/ (∃ xs,SqT K H p xs /\ k= !xs.isEmpty) \/ ∃ kvs,H p=some (.dK kvs) /\ k= !kvs.isEmpty
 | _=>False
theorem zjH {κ:Type} {kvs:List (κ×V)} {vs:List (κ×Value)} (r:KV kvs vs):(!vs.isEmpty)= !kvs.isEmpty:=by
 cases r <;> rfl
theorem zfw {xs:List V} {its:List Value} (r:Vals xs its):(!its.toArray.isEmpty)= !xs.isEmpty:=by
 cases r <;> simp
theorem line63:(sizeLine:Nat) < 2 ^ 63:=by rw [sizeLine_eq]; decide
theorem zqk:TruR X (fun x H Q=>∃ k,TruV X.K x H k /\ Q k H):=by
 intro pins s σ H x v Q I rx h
 obtain ⟨k,e,q⟩:=h
 have hl:=line63
 have hs:sizeLine=16777216:=sizeLine_eq
 cases x with
 | non=>
   cases rx
   have e':k=false:=e
   subst e'
   exact truthy_none ⟨H,I,q⟩
 | bl b=>
   cases rx
   have e':k=b:=e
   subst e'
   exact wpAny_truthy_bool ⟨H,I,q⟩
 | int i=>
   obtain ⟨t,rfl⟩:=rx
   have e':k=(i != 0):=e
   subst e'
   exact PySem.P.truthy_int ⟨H,I,q⟩
 | str y=>
   obtain ⟨t,rfl⟩:=rx
   obtain ⟨hy,e'⟩:y.length<=sizeLine /\ k=((y.length:Int) != 0):=e
   subst e'
   exact PySem.P.truthy_str (by omega) ⟨H,I.tok _,q⟩
 | byt y=>
   obtain ⟨t,rfl⟩:=rx
   obtain ⟨hy,e'⟩:y.size<=sizeLine /\ k=((y.size:Int) != 0):=e
   subst e'
   exact PySem.W.truthy_bytes (by omega) ⟨H,I.tok _,q⟩
 | ref p=>
   cases rx
   have e':(∃ xs,SqL X.K H p xs /\ k= !xs.isEmpty) \/ (∃ xs,SqT X.K H p xs /\ k= !xs.isEmpty) \/ ∃ kvs,H p=some (.dK kvs) /\ k= !kvs.isEmpty:=e
   rcases e' with ⟨xs,hx,e'⟩ | ⟨xs,hx,e'⟩ | ⟨kvs,hx,e'⟩
   ·subst e'
    obtain ⟨its,r,pl,hz⟩:=I.list hx
    have hlen:=r.length
    exact wpAny_truthy_list pl.isList (by simp only [List.size_toArray]; omega) ⟨H,I.tok _,by rw [zfw r]; exact q⟩
   ·subst e'
    obtain ⟨its,r,pl,hz⟩:=I.tuple hx
    have hlen:=r.length
    exact truthy_tuple pl (by simp only [List.size_toArray]; omega) ⟨H,I.tok _,by rw [zfw r]; exact q⟩
   ·subst e'
    obtain ⟨hz,hS,vs,r,m⟩:kvs.length<=sizeLine /\ (p == sysModules)=false /\ ∃ vs,KV kvs vs /\ s.heap.DictOf (mixKind X.prog X.w) p vs:=I.hok p _ hx
    have hlen:kvs.length=vs.length:=Paired.length r
    exact wpAny_truthy_dict hS m (by omega) ⟨H,I.tok _,by rw [zjH r]; exact q⟩
 | _=>exact (show False from e).elim
theorem zmI (ha:PE X a ta) (he:∀ whole,isTrue a X.env whole=(do let v <- whole; standAt a.pos; holding [v] (truthy v))):
  PT X a (fun σ H Q=>ta σ H fun x H'=>∃ k,TruV X.K x H' k /\ Q k H'):=by
 intro pins s σ H Q I h
 exact isTrue_plain (thn (ha pins s σ H _ I h) fun v s1 ⟨x,H1,I1,r1,q1⟩=>zqk pins s1 σ H1 x v Q I1 r1 q1) (he _)
theorem zju:OpR X (binaryOp .Add) (fun x y H Q=>∃ i j,x=.str i /\ y=.str j /\ i.length + j.length<=sizeLine /\ Q (.str (i ++ j)) H):=by
 intro pins s σ H x y v u Q I rx ry h
 obtain ⟨i,j,rfl,rfl,hz,q⟩:=h
 obtain ⟨t,rfl⟩:=rx
 obtain ⟨t',rfl⟩:=ry
 exact add_str (fun t' tk=>⟨.str (i ++ j),H,I.tok _,⟨_,rfl⟩,q⟩) hz
theorem vals1 {x:V} {us:List Value} (r:Vals [x] us):∃ u,us=[u] /\ RelV x u:=by
 cases r with
 | cons r1 r2=>cases r2; exact ⟨_,rfl,r1⟩
theorem vals2 {x y:V} {us:List Value} (r:Vals [x,y] us):∃ u w',us=[u,w'] /\ RelV x u /\ RelV y w':=by
 cases r with
 | cons r1 r2=>
   cases r2 with
   | cons r3 r4=>cases r4; exact ⟨_,_,rfl,r1,r3⟩
theorem zdz:CallR X (.builtin "abs") (fun xs H Q=>∃ i,xs=[.int i] /\ Q (.int (if i < 0 then -i else i)) H):=by
 intro pins s σ H xs us Q I r h
 obtain ⟨i,rfl,q⟩:=h
 obtain ⟨u,rfl,t,rfl⟩:=vals1 r
 exact call_abs_int fun u tk=>⟨.int (if i < 0 then -i else i),H,I.tok _,⟨_,rfl⟩,q⟩
theorem zgq (hc:X.calm=true):CallR X (.builtin "max") (fun xs H Q=>∃ i j,xs=[.int i,.int j] /\ Q (.int (if j > i then j else i)) H):=by
 intro pins s σ H xs us Q I r h
 obtain ⟨i,j,rfl,q⟩:=h
 obtain ⟨u,w',rfl,⟨t,rfl⟩,⟨t',rfl⟩⟩:=vals2 r
 refine max_two_ints (I.ok.hd hc) fun h' tk k=>⟨_,H,I.kept k,?_,q⟩
 by_cases hj:j > i
 ·rw [if_pos hj,if_pos hj]; exact ⟨_,rfl⟩
 ·rw [if_neg hj,if_neg hj]; exact ⟨_,rfl⟩
theorem zjR (hc:X.calm=true):CallR X (.builtin "min") (fun xs H Q=>∃ i j,xs=[.int i,.int j] /\ Q (.int (if j < i then j else i)) H):=by
 intro pins s σ H xs us Q I r h
 obtain ⟨i,j,rfl,q⟩:=h
 obtain ⟨u,w',rfl,⟨t,rfl⟩,⟨t',rfl⟩⟩:=vals2 r
 refine min_two_ints (I.ok.hd hc) fun h' tk k=>⟨_,H,I.kept k,?_,q⟩
 by_cases hj:j < i
 ·rw [if_pos hj,if_pos hj]; exact ⟨_,rfl⟩
 ·rw [if_neg hj,if_neg hj]; exact ⟨_,rfl⟩
theorem zcL:CallR X (.type "int") (fun xs H Q=>(∃ i,xs=[.int i] /\ Q (.int i) H) \/ ∃ k,xs=[.bl k] /\ Q (.int (if k then 1 else 0)) H):=by
 intro pins s σ H xs us Q I r h
 rcases h with ⟨i,rfl,q⟩ | ⟨k,rfl,q⟩
 ·obtain ⟨u,rfl,t,rfl⟩:=vals1 r
  exact call_int_int ⟨.int i,H,I,⟨_,rfl⟩,q⟩
 ·obtain ⟨u,rfl,r1⟩:=vals1 r
  cases r1
  exact call_int_bool ⟨.int (if k then 1 else 0),H,I.tok _,⟨_,rfl⟩,q⟩
end
end L2
namespace L2
open PySem PySem.Spec PyProof.Rows
structure ObjM (h:Heap) (x dx C:Addr) (mA:Str->Option Value):Prop where
 obj:h.get? x=some (PySem.W.instObj C dx)
 ns:h.Ns1 dx mA
 ne:dx≠x
set_option tactic.hygienic true in
theorem zlr {h:Heap} {dx:Addr} {mA:Str->Option Value} (n:h.Ns1 dx mA):∃ od,h.get? dx=some od /\ ∀ name,PySem.W.lookIn name od=some (mA name):=by
 obtain ⟨o,es,ep,ho,hd,hk,_,hm⟩:=n
 refine ⟨o,ho,fun name=>?_⟩
 have e:=hm name
 unfold nsFind findBy at e
 rw [<- Array.find?_toList] at e
 unfold PySem.W.lookIn
 rw [hd]
 dsimp only
 split
 ·rename_i y q
  rw [q] at e
  exact congrArg some e
 ·rename_i q
  rw [q] at e
  have a:es.toList.any (·.refKey)=false:=by
   rw [List.any_eq_false]
   intro y hy
   obtain ⟨z,t,hkey⟩:=hk y (Array.mem_toList_iff.mp hy)
   simp [DictEntry.refKey,hkey]
  have a':¬ es.toList.any (·.refKey)=true:=by rw [a]; exact Bool.false_ne_true
  rw [if_neg a']
  exact congrArg some e
theorem ObjM.look {h:Heap} {x dx C:Addr} {mA:Str->Option Value} (I:ObjM h x dx C mA):∃ od,PySem.W.InstAt h x (PySem.W.instObj C dx) C (some od) /\ ∀ name,PySem.W.lookIn name od=some (mA name):=
 let ⟨od,ho,hl⟩:=zlr I.ns
 ⟨od,⟨I.obj,rfl,rfl,ho⟩,hl⟩
section
variable {prog:Program} {w:World} {A:Around} {E:Value->Shared->Prop} {s:Shared} {K:PySem.W.Frag} {x dx C f:Addr} {mA:Str->Option Value} {name:Str} {v:Value}
end
theorem RelO.some_of {v:V} {o:Option Value} (r:RelO (some v) o):∃ u,o=some u /\ RelV v u:=by
 cases o with
 | none=>exact (show False from r).elim
 | some u=>exact ⟨u,rfl,r⟩
section
variable {P:Program} {w:World} {H H':Hp} {h h':Heap} {a C dx:Addr} {fs fs':List (Str×V)}
theorem zoj (hok:HOk P w H h) (e:H a=some (.ins C dx fs)):∃ mA,ObjM h a dx C mA /\ (∀ f,RelO (fs.lookup f) (mA f)) /\ PySem.Within mA (fs.map (·.1)) /\ fs.length<=1000 /\ H dx=some (.own a):=by
 obtain ⟨d,z,ne,ob,mA,n,r,q⟩:=(show ObjOk P w H h a (.ins C dx fs) from hok a _ e)
 exact ⟨mA,⟨ob,n,ne⟩,r,q,z,d⟩
end
structure Cls (K:PySem.W.Frag) (C:Addr):Prop where
 pg:PySem.W.plainGet K C Str.empty=true
 hd:PySem.W.hasDictIn K C=true
 po:PySem.W.plainOver K C=true
 sa:PySem.W.findIn K (.ref C) "__setattr__"=some (some (.builtin "object.__setattr__"))
theorem Cls.get {K:PySem.W.Frag} {C:Addr} (c:Cls K C) (f:Str):PySem.W.plainGet K C f=true:=c.pg
section
variable {X:Cx} {pins:List (Addr×Obj)} {σ:St} {H:Hp} {s:Shared} {a C dx:Addr} {fs:List (Str×V)} {f:Str} {v:V} {A:Around} {E:Value->Shared->Prop}
end
section
variable {X:Cx} {o e value:Expr} {f:Str} {pos pos' tpos:Pos} {ta tv:TE}
end
section
variable {X:Cx} {pins:List (Addr×Obj)} {σ:St} {H:Hp} {s:Shared} {A:Around} {E:Value->Shared->Prop} {Q:Value->Shared->Prop} {c:Value} {b:Bool}
inductive TyOf (K:PySem.W.Frag) (H:Hp):V->Value->Prop where
 | non:TyOf K H .non (.type "NoneType")
 | bl (x:Bool):TyOf K H (.bl x) (.type "bool")
 | int (i:Int):TyOf K H (.int i) (.type "int")
 | str (x:Str):TyOf K H (.str x) (.type "str")
 | flt (x:UInt64):TyOf K H (.flt x) (.type "float")
 | lst {a:Addr} {xs:List V} (e:H a=some (.lst xs)):TyOf K H (.ref a) (.type "list")
 | frz {a:Addr} {o:Obj} {xs:List V} (e:H a=some (.frz o (.lst xs))):TyOf K H (.ref a) (.type "list")
 | tup {a:Addr} {xs:List V} (e:H a=some (.tup xs)):TyOf K H (.ref a) (.type "tuple")
 | dK {a:Addr} {kvs:List (Key×V)} (e:H a=some (.dK kvs)):TyOf K H (.ref a) (.type "dict")
 | dT {a:Addr} {kvs:List (List Key×V)} (e:H a=some (.dT kvs)):TyOf K H (.ref a) (.type "dict")
 | ins {a C dx:Addr} {fs:List (Str×V)} (e:H a=some (.ins C dx fs)) (cl:Cls K C) (ha:PySem.W.findIn K (.ref C) "__class__"=some (some (.builtin "object.__class__")))
   (hn:PySem.W.specialIn K (.builtin "object.__class__") "__get__"=some (some (.builtin "getset_descriptor.__get__"))) (htk:PySem.W.takesIn K (.builtin "object.__class__")=some true)
   (hm:PySem.W.mroIn K C (.type "object")=some true):TyOf K H (.ref a) (.ref C)
theorem zkS {x:V} {u t:Value} (I:Inv X pins σ H s) (rx:RelV x u) (ty:TyOf X.K H x t) (e:PySem.W.kitOne X.K t c=some b) (h:∀ tk,Q (.bool b) { s with toks:=tk }):
  wpAny (model X.prog X.w) A (call (.builtin "isinstance") [u,c]) Q E s:=by
 cases ty with
 | non=>cases (show u=Value.none from rx); exact PySem.W.kia_one PySem.W.kitx_none I.kIn True.intro e (fun z=>nomatch z) h
 | bl y=>cases (show u=Value.bool y from rx); exact PySem.W.kia_one PySem.W.kitx_bool I.kIn True.intro e (fun z=>nomatch z) h
 | int i=>obtain ⟨t,q⟩:=(show ∃ t,u=Value.int i t from rx); cases q; exact PySem.W.kia_one PySem.W.kitx_int I.kIn True.intro e (fun z=>nomatch z) h
 | str y=>obtain ⟨t,q⟩:=(show ∃ t,u=Value.str y t from rx); cases q; exact PySem.W.kia_one PySem.W.kitx_str I.kIn True.intro e (fun z=>nomatch z) h
 | flt y=>obtain ⟨t,q⟩:=(show ∃ t,u=Value.float y t from rx); cases q; exact PySem.W.kia_one PySem.W.kitx_float I.kIn True.intro e (fun z=>nomatch z) h
 | @lst a xs ea=>
   cases (show u=Value.ref a from rx)
   obtain ⟨_,_,n,_,h1⟩:=(show ObjOk X.prog X.w H s.heap a (.lst xs) from I.hok a _ ea)
   exact PySem.W.kia_one PySem.W.kitx_list I.kIn ⟨_,h1,rfl⟩ e (fun z=>nomatch z) h
 | @frz a ob xs ea=>
   cases (show u=Value.ref a from rx)
   obtain ⟨_,_,_,n,_,h1⟩:=(show ObjOk X.prog X.w H s.heap a (.frz ob (.lst xs)) from I.hok a _ ea)
   exact PySem.W.kia_one PySem.W.kitx_list I.kIn ⟨_,h1,rfl⟩ e (fun z=>nomatch z) h
 | @tup a xs ea=>
   cases (show u=Value.ref a from rx)
   obtain ⟨_,_,_,p⟩:=(show ObjOk X.prog X.w H s.heap a (.tup xs) from I.hok a _ ea)
   obtain ⟨o,h1,h2,_⟩:=p
   exact PySem.W.kia_one PySem.W.kitx_tuple I.kIn ⟨o,h1,h2⟩ e (fun z=>nomatch z) h
 | @dK a kvs ea=>
   cases (show u=Value.ref a from rx)
   obtain ⟨_,_,vs,_,p⟩:=(show ObjOk X.prog X.w H s.heap a (.dK kvs) from I.hok a _ ea)
   obtain ⟨o,es,ep,h1,h2,_⟩:=p
   exact PySem.W.kia_one PySem.W.kitx_dict I.kIn ⟨o,h1,h2.1⟩ e (fun z=>nomatch z) h
 | @dT a kvs ea=>
   cases (show u=Value.ref a from rx)
   obtain ⟨_,_,xs,_,o,es,ep,h1,h2,_⟩:=(show ObjOk X.prog X.w H s.heap a (.dT kvs) from I.hok a _ ea)
   exact PySem.W.kia_one PySem.W.kitx_dict I.kIn ⟨o,h1,h2.1⟩ e (fun z=>nomatch z) h
 | @ins a C dx fs ea cl ha hn htk hm=>
   cases (show u=Value.ref a from rx)
   obtain ⟨mA,O,_⟩:=zoj I.hok ea
   obtain ⟨od,J,_⟩:=O.look
   exact PySem.W.kia_one (PySem.W.kitx_own (cl.get _) cl.hd ha hn htk hm) I.kIn J e (fun z=>nomatch z) h
end
end L2
namespace L2
open PySem PySem.Spec PyProof.Rows
structure Room (k:Nat) (A:Around):Prop where
 hd:A.handled=none
 dp:A.depth + 3 * k + 5 < recursionLimit
 un:A.units + 16 * k + 200 < cLine
theorem Room.mono {j k:Nat} {A:Around} (r:Room k A) (h:j<=k):Room j A:=⟨r.hd,by have:=r.dp; omega,by have:=r.un; omega⟩
theorem Room.deeper {k:Nat} {A:Around} (r:Room (k + 1) A) (env:Env):Room k (A.deeper env):=
 ⟨r.hd,by have:=r.dp; show A.depth + 1 + 3 * k + 5 < _; omega,by have:=r.un; show A.units + 3 + 16 * k + 200 < _; omega⟩
theorem Room.depth {k:Nat} {A:Around} (r:Room k A):A.depth < recursionLimit:=by have:=r.dp; omega
theorem Room.units {k:Nat} {A:Around} (r:Room k A):A.units + 64 < cLine:=by have:=r.un; omega
noncomputable def tNil:TA:=fun _ H Q=>Q [] H
noncomputable def tCons (ta:TE) (tr:TA):TA:=fun σ H Q=>ta σ H fun x H1=>tr σ H1 fun xs H2=>Q (x :: xs) H2
section
variable {X:Cx} {e:Expr} {es:List Expr} {te:TE} {t:TA} {pos:Pos}
theorem za2:PA X [] tNil:=fun _ _ _ _ H Q I h=>Calls.spliced_nil ⟨[],H,I,.nil,h⟩
theorem zZ (ha:PE X e te) (hr:PA X es t) (hs:starEach (e :: es) X.env=(false,eval e X.env) :: starEach es X.env:=by rfl):PA X (e :: es) (tCons te t):=by
 intro pos pins s σ H Q I h
 rw [hs]
 show wpAny _ _ (spliced ((false,eval e X.env) :: backTo pos (starEach es X.env))) _ _ s
 refine Calls.spliced_cons (thn (ha pins s σ H _ I h) fun u s1 ⟨x,H1,I1,r1,q1⟩=>?_)
 exact thn (hr pos pins s1 σ H1 _ I1 q1) fun us s2 ⟨xs,H2,I2,r2,q2⟩=>⟨x :: xs,H2,I2,.cons r1 r2,q2⟩
noncomputable def tTup (t:TA):TE:=fun σ H Q=>t σ H fun xs H1=>xs.length<=sizeLine /\ ∀ p,H1 p=none->Q (.ref p) (upd H1 p (.tup xs))
noncomputable def tLst (t:TA):TE:=fun σ H Q=>t σ H fun xs H1=>xs.length<=sizeLine /\ ∀ p,H1 p=none->Q (.ref p) (upd H1 p (.lst xs))
theorem znp {x1} (h:PA X es t):PE X (.Tuple es x1 pos) (tTup t):=by
 intro pins s σ H Q I hq
 refine wpAny_Tuple_spliced (thn (h pos pins s σ H _ I hq) fun us s1 ⟨xs,H1,I1,r,z,q⟩=>⟨by rw [<- r.length]; exact z,?_⟩)
 have hf:H1 s1.heap.objs.size=none:=I1.hok.fresh (Nat.le_refl _)
 refine ⟨.ref s1.heap.objs.size,upd H1 s1.heap.objs.size (.tup xs),I1.laid (t':=s1.toks) (fun b u e=>Heap.get?_push_of_some _ e) (Nat.le_refl _) ?_,rfl,q _ hf⟩
 exact ⟨z,us,r,⟨_,Heap.get?_push_size _ rfl,rfl,_,rfl⟩⟩
theorem zqt (h:PA X es t):PE X (.List es pos) (tLst t):=by
 intro pins s σ H Q I hq
 refine wpAny_List_spliced (thn (h pos pins s σ H _ I hq) fun us s1 ⟨xs,H1,I1,r,z,q⟩=>⟨by rw [<- r.length]; exact z,?_⟩)
 have hf:H1 s1.heap.objs.size=none:=I1.hok.fresh (Nat.le_refl _)
 refine ⟨.ref s1.heap.objs.size,upd H1 s1.heap.objs.size (.lst xs),I1.laid (t':=s1.toks) (fun b u e=>Heap.get?_push_of_some _ e) (Nat.le_refl _) ?_,rfl,q _ hf⟩
 exact ⟨z,us,0,r,Heap.get?_push_size _ rfl⟩
end
noncomputable abbrev Sp:=List V->Hp->VK->XK->Prop
noncomputable abbrev CXT:=List Env->Hp->Shared->XK->Value->Shared->Prop
structure Env0 (P:Program) (w:World) (K:PySem.W.Frag) (mg:Str->Option Value) (base:Heap) (A:Around) (outer:List Env) (s:Shared) (H:Hp):Prop where
 frames:A.frames=some outer
 mod:Mod K mg base
 bs:∀ b o,base.get? b=some o->s.heap.get? b=some o /\ H b=none
 bsz:base.objs.size<=s.heap.objs.size
 funs:s.heap.FunFrames base outer
 frf:∀ b∈frs outer,H b=none
 hok:HOk P w H s.heap
 bare:AllBare s.gens
noncomputable def CE (outer:List Env) (P:Program) (w:World) (H:Hp) (s:Shared) (Q:VK) (u:Value) (s':Shared):Prop:=
 ∃ v H',s'.os=s.os /\ AllBare s'.gens /\ Un (frs outer) [] H H' s.heap s'.heap /\ HOk P w H' s'.heap /\ RelV v u /\ Q v H'
noncomputable def CR (CX:CXT) (outer:List Env) (P:Program) (w:World) (H:Hp) (s:Shared) (Q:VK) (E:XK) (r:Result) (s':Shared):Prop:=
 match r with
 | .ok (.ret u)=>CE outer P w H s Q u s'
 | .ok _=>False
 | .error e=>CX outer H s E e s'
structure FnOk (P:Program) (w:World) (K:PySem.W.Frag) (mg:Str->Option Value) (base:Heap) (CX:CXT) (k:Nat) (f:Addr) (fd:FuncData) (ps:List Str) (sp:Sp):Prop where
 len:∀ vs H Q E,sp vs H Q E->vs.length=ps.length
 run:∀ (A:Around) (outer:List Env) (s:Shared) (H:Hp) (args:Args) (us:List Value) (vs:List V) (Q:VK) (E:XK),Room k A->Env0 P w K mg base A outer s H->BindsTo s fd args (ps.zip us)->Vals vs us->sp vs H Q E->
  codeAny (model P w) A (.call (.ref f) args) (CR CX outer P w H s Q E) s
section
variable {X:Cx} {pins:List (Addr×Obj)} {σ:St} {H:Hp} {s s':Shared}
theorem Inv.env0 (I:Inv X pins σ H s):Env0 X.prog X.w X.K X.mg X.base X.A X.stack s H:=
 ⟨I.ok.frames,I.ok.mod,I.bs,Nat.le_trans I.ok.bsz I.sz,I.stack,I.stkFree,I.hok,I.bare⟩
theorem Inv.after {Q:VK} {u:Value} (I:Inv X pins σ H s) (h:CE X.stack X.prog X.w H s Q u s'):EP X pins σ Q u s':=by
 obtain ⟨v,H',os,bare,un,hok,r,q⟩:=h
 obtain ⟨hh,g,d,t,os'⟩:=s'
 obtain rfl:os'=s.os:=os
 exact ⟨v,H',I.call (h':=hh) (g':=g) (d':=d) (t':=t) (ch:=[]) un hok bare (fun b z=>absurd z (by simp)),r,q⟩
end
noncomputable def tCall (sp:Sp) (dvs:List V) (E:XK) (t:TA):TE:=fun σ H Q=>t σ H fun vs H1=>sp (vs ++ dvs) H1 Q E
noncomputable def Binds (K:PySem.W.Frag) (fd:FuncData) (ps:List Str) (ds:List Value):Prop:=
 ∀ (s:Shared) (us:List Value),K.In s.heap->(us ++ ds).length=ps.length->BindsTo s fd ⟨us,[]⟩ (ps.zip (us ++ ds))
theorem Binds.all {K:PySem.W.Frag} {fd:FuncData} {ps:List Str} (h:∀ us:List Value,us.length=ps.length->bindArgs fd ⟨us,[]⟩=pure (ps.zip us)):Binds K fd ps []:=fun s us _ hl=>by
 rw [List.append_nil] at hl ⊢
 exact .of_eq (h us hl)
noncomputable def Passes (CX:CXT) (X:Cx) (E:XK):Prop:=∀ (pins:List (Addr×Obj)) (σ:St) (H:Hp) (s:Shared) (e:Value) (s':Shared),Inv X pins σ H s->CX X.stack H s E e s'->X.xe e s'
section
variable {X:Cx} {CX:CXT} {k:Nat} {f C:Addr} {fd:FuncData} {ps:List Str} {sp:Sp} {dvs:List V} {ds:List Value} {E:XK} {x m:Str} {p pos apos:Pos} {e o:Expr} {es:List Expr} {ta:TE} {t:TA}
theorem zpI {pins:List (Addr×Obj)} {σ:St} {H:Hp} {s:Shared} {Q:VK} {us:List Value} {vs:List V} (F:FnOk X.prog X.w X.K X.mg X.base CX k f fd ps sp) (hr:Room k X.A) (hb:Binds X.K fd ps ds) (hd:Vals dvs ds) (hx:Passes CX X E)
  (I:Inv X pins σ H s) (r:Vals vs us) (h:sp (vs ++ dvs) H Q E):wpAny (model X.prog X.w) X.A (call (.ref f) us) (EP X pins σ Q) X.xe s:=by
 have r2:Vals (vs ++ dvs) (us ++ ds):=r.append hd
 have hl:(us ++ ds).length=ps.length:=by rw [<- r2.length]; exact F.len _ _ _ _ h
 refine wpAny_call (codeAny_mono (F.run X.A X.stack s H ⟨us,[]⟩ (us ++ ds) (vs ++ dvs) Q E hr I.env0 (hb s us I.kIn hl) r2 h) fun r s' hq=>?_)
 cases r with
 | error e=>exact hx pins σ H s e s' I hq
 | ok fl=>
   cases fl with
   | ret u=>exact I.after hq
   | next=>exact False.elim hq
   | brk=>exact False.elim hq
   | cont=>exact False.elim hq
theorem zj0 (F:FnOk X.prog X.w X.K X.mg X.base CX k f fd ps sp) (hr:Room k X.A) (hg:Gl X x) (hm:X.mg x=some (.ref f)) (hk:PySem.W.keepIn X.K (.ref f)=true) (hb:Binds X.K fd ps ds) (hd:Vals dvs ds) (hx:Passes CX X E)
  (ha:PA X (e :: es) t) (hdb:(x == ("__debug__":Str))=false:=by decide) (he:starEach (e :: es) X.env=(false,eval e X.env) :: starEach es X.env:=by rfl) (hpl:(backTo pos (starEach es X.env)).any (·.1)=false:=by rfl):
  PE X (.Call (.Name x p) (e :: es) [] pos) (tCall sp dvs E t):=by
 intro pins s σ H Q I h
 refine wpAny_Call_Name_kw (zeq I hg hm ?_ hdb)
 refine PySem.W.callWith_K (h₀:=X.base) I.ok.mod.kin hk (thn (ha pos pins s σ H _ I h) fun us s1 ⟨vs,H1,I1,r,q⟩=>⟨I1.kIn,?_⟩) he hpl
 exact zpI F hr hb hd hx I1 r q
end
section
variable {X:Cx} {CX:CXT} {k:Nat} {f C:Addr} {fd:FuncData} {ps ks:List Str} {sp:Sp} {E:XK} {x m:Str} {p pos apos kpos:Pos} {e o:Expr} {es:List Expr} {kws:List Keyword} {te ta:TE} {t tk:TA} {nm:Option Str}
variable {g:List Value->List Value->List Value} {gV:List V->List V->List V}
end
structure FnScope (N P:List Str) (sc:Scope):Prop where
 kind:sc.kind=.function
 co:sc.isCoroutine=false
 gen:sc.isGenerator=false
 nd:N.Nodup
 pre:N.take P.length=P
 par:∀ x∈P,sc.names.lookup x=some .local \/ sc.names.lookup x=some .cell
 nofree:∀ y∈sc.names,y.2≠.free
theorem zgE {kindOf:Str->Option NameKind} {x:Str}:∀ {binds:List (Str×Value)} {m:Str->Option Value},(∀ v,(x,v)∉binds)->bindL kindOf binds m x=m x
 | [],_,_=>rfl
 | (n,v) :: r,m,h=>by
   unfold bindL
   rw [zgE fun w hw=>h w (List.mem_cons_of_mem _ hw)]
   split
   ·have:x≠n:=by rintro rfl; exact h v List.mem_cons_self
    simp [this]
   ·rfl
theorem zgk {kindOf:Str->Option NameKind} {x:Str}:∀ {binds:List (Str×Value)} {m:Str->Option Value},(∀ v,(x,v)∉binds)->bindC kindOf binds m x=m x
 | [],_,_=>rfl
 | (n,v) :: r,m,h=>by
   unfold bindC
   rw [zgk fun w hw=>h w (List.mem_cons_of_mem _ hw)]
   split
   ·rfl
   ·have:x≠n:=by rintro rfl; exact h v List.mem_cons_self
    simp [this]
theorem zhj {kindOf:Str->Option NameKind} {x:Str} {v:Value}:∀ {P:List Str} {vs:List Value} {i:Nat} {m:Str->Option Value},P.Nodup->P[i]?=some x->vs[i]?=some v->kindOf x=some .local->
  bindL kindOf (P.zip vs) m x=some v
 | [],_,_,_,_,h,_,_=>by simp at h
 | _ :: _,[],_,_,_,_,h,_=>by simp at h
 | p :: P,w :: vs,0,m,nd,h1,h2,hk=>by
   simp at h1 h2; subst h1; subst h2
   show bindL kindOf ((p,w) :: P.zip vs) m p=_
   unfold bindL
   rw [zgE fun v hv=>(List.nodup_cons.mp nd).1 (List.of_mem_zip hv).1,if_pos hk]
   simp
 | p :: P,w :: vs,i + 1,m,nd,h1,h2,hk=>by
   show bindL kindOf ((p,w) :: P.zip vs) m x=_
   unfold bindL
   exact zhj (i:=i) (List.nodup_cons.mp nd).2 (by simpa using h1) (by simpa using h2) hk
theorem zgx {kindOf:Str->Option NameKind} {x:Str} {v:Value}:∀ {P:List Str} {vs:List Value} {i:Nat} {m:Str->Option Value},P.Nodup->P[i]?=some x->vs[i]?=some v->kindOf x≠some .local->
  bindC kindOf (P.zip vs) m x=some v
 | [],_,_,_,_,h,_,_=>by simp at h
 | _ :: _,[],_,_,_,_,h,_=>by simp at h
 | p :: P,w :: vs,0,m,nd,h1,h2,hk=>by
   simp at h1 h2; subst h1; subst h2
   show bindC kindOf ((p,w) :: P.zip vs) m p=_
   unfold bindC
   rw [zgk fun v hv=>(List.nodup_cons.mp nd).1 (List.of_mem_zip hv).1,if_neg hk]
   simp
 | p :: P,w :: vs,i + 1,m,nd,h1,h2,hk=>by
   show bindC kindOf ((p,w) :: P.zip vs) m x=_
   unfold bindC
   exact zgx (i:=i) (List.nodup_cons.mp nd).2 (by simpa using h1) (by simpa using h2) hk
noncomputable def start (N:List Str) (vs:List V):St:=vs.map some ++ List.replicate (N.length - vs.length) none
noncomputable def cxOf (CX:CXT) (P:Program) (w:World) (K:PySem.W.Frag) (mg:Str->Option Value) (base:Heap) (N:List Str) (qual:Str) (scope:Scope) (f:Addr) (cd:Value) (A:Around) (outer:List Env) (s:Shared) (H:Hp) (E:XK):Cx where
 prog:=P
 w:=w
 K:=K
 mg:=mg
 base:=base
 A:=A.deeper (envOfC qual scope s.heap.objs.size f cd)
 N:=N
 s₀:=s
 H₀:=H
 env:=envOfC qual scope s.heap.objs.size f cd
 outer:=outer
 stack:=envOfC qual scope s.heap.objs.size f cd :: outer
 ex:=[]
 calm:=true
 fn:=fun _=>true
 pn:=[]
 xe:=fun e s'=>wpAny (model P w) (A.deeper (envOfC qual scope s.heap.objs.size f cd)) (leaving (envOfC qual scope s.heap.objs.size f cd) e) (fun _ s''=>CX outer H s E e s'') (fun e' s''=>CX outer H s E e' s'') s'
theorem ziE {sc:Scope} {n:Nat} {x:Str} (h:sc.names.lookup x=some .cell):∃ c,(cellsFrom n sc.names []).lookup x=some c:=by
 have q:=PySem.W.cellsFrom_some sc.names n [] (.inl h)
 exact Option.isSome_iff_exists.mp q
theorem zgS {CX:CXT} {P:Program} {w:World} {K:PySem.W.Frag} {mg:Str->Option Value} {base:Heap} {N ps:List Str} {qual:Str} {scope:Scope} {f:Addr} {cd:Value} {A:Around} {outer:List Env} {s s1:Shared} {H:Hp} {E:XK} {us:List Value} {vs:List V}
  (S:FnScope N ps scope) (hd:A.handled=none) (e0:Env0 P w K mg base A outer s H) (hl:vs.length=ps.length) (r:Vals vs us)
  (x:InCallC s s.heap.objs.size (bindL (envOfC qual scope s.heap.objs.size f cd).kindOf (ps.zip us) fun _=>none) (cellsFrom (s.heap.objs.size + 1) scope.names []) (bindC (envOfC qual scope s.heap.objs.size f cd).kindOf (ps.zip us) fun _=>none) s1):
  Inv (cxOf CX P w K mg base N qual scope f cd A outer s H E) [] (start N vs) H s1:=by
 have hpl:ps.length<=N.length:=by have:=congrArg List.length S.pre; rw [List.length_take] at this; omega
 obtain ⟨h1,tk,rfl,hk⟩:=x.done
 have noA:∀ b:Addr,b∉(cxOf CX P w K mg base N qual scope f cd A outer s H E).ex:=fun b z=>absurd (show b∈([]:List Addr) from z) (by simp)
 refine ⟨⟨e0.mod,S.kind,rfl,rfl,Nat.le_refl _,fun y z c h1 h2=>?_,fun y hy=>?_,fun y c _ h=>?_,fun _=>hd,Around.frames_deeper e0.frames,.inr ⟨rfl,rfl⟩,fun b z=>absurd z (noA b),e0.bs,e0.bsz,fun b _ _=>noA b,fun b z=>absurd z (noA b),e0.funs,e0.frf⟩,
  rfl,e0.bare,Un.kept hk,⟨_,x.toInCall.ns,fun i y v h1 h2 h3=>?_⟩,fun y c h=>⟨_,x.cell y c h⟩,e0.hok.fresh (Nat.le_refl _),fun y c h=>?_,fun p hp=>absurd (show p∈([]:List (Addr×Obj)) from hp) (by simp),e0.hok.kept hk,?_⟩
 ·exact name_of_addr x.apart (PySem.mem_of_lookup h1) (PySem.mem_of_lookup h2)
 ·have hy:scope.names.lookup y=some .cell \/ scope.names.lookup y=some .free:=hy
  rcases hy with hy | hy
  ·exact ziE hy
  ·exact absurd rfl (S.nofree _ (PySem.mem_of_lookup hy))
 ·exact Nat.le_of_lt (x.above y c (PySem.mem_of_lookup h))
 ·have hi:i < vs.length:=by
   unfold start at h2
   by_cases hi:i < vs.length
   ·exact hi
   ·rw [List.getElem?_append_right (by simpa using hi)] at h2
    rw [List.getElem?_replicate] at h2
    split at h2 <;> cases h2
  have ha:vs[i]?=some v:=by
   unfold start at h2
   rw [List.getElem?_append_left (by simpa using hi),List.getElem?_map] at h2
   cases e:vs[i]? with
   | none=>rw [e] at h2; cases h2
   | some a=>rw [e] at h2; cases h2; rfl
  obtain ⟨u,hu,rv⟩:=r.get ha
  have hp:ps[i]?=some y:=by
   rw [<- S.pre,List.getElem?_take_of_lt (by omega)]; exact h1
  have ndP:ps.Nodup:=by rw [<- S.pre]; exact S.nd.sublist (List.take_sublist _ _)
  refine ⟨u,rv,?_⟩
  rcases S.par y (List.mem_of_getElem? hp) with k | k
  ·exact .inl ⟨k,zhj ndP hp hu k⟩
  ·obtain ⟨c,e⟩:=ziE (n:=s.heap.objs.size + 1) k
   refine .inr ⟨.inl k,c,e,?_⟩
   have q:=x.cell y c e
   rw [zgx ndP hp hu (by show scope.names.lookup y≠_; rw [k]; decide)] at q
   exact q
 ·exact e0.hok.fresh (Nat.le_of_lt (x.above y c (PySem.mem_of_lookup h)))
 ·unfold start
  show _=N.length
  rw [List.length_append,List.length_map,List.length_replicate]
  omega
theorem zpE {CX:CXT} {P:Program} {w:World} {K:PySem.W.Frag} {mg:Str->Option Value} {base:Heap} {k:Nat} {f:Addr} {name qual:Str} {params:Arguments} {body:List Stmt} {scope:Scope} {dV kV doc pm cdv ct oc:Value} {an od:Option Addr}
  {osl:Array (Option Value)} {N ps:List Str} {sp:Sp} (lk:K.lookup f=some ⟨oc,od,.func (PySem.W.fnOf name qual params body scope dV kV doc pm an cdv ct),osl⟩) (hcd:PySem.W.codeIn K cdv qual=true) (S:FnScope N ps scope)
  (len:∀ vs H Q E,sp vs H Q E->vs.length=ps.length)
  (hbody:∀ (A:Around) (outer:List Env) (s:Shared) (H:Hp) (vs:List V) (Q:VK) (E:XK),Room k (A.deeper (envOfC qual scope s.heap.objs.size f cdv))->sp vs H Q E->
   ∃ t,PSs (cxOf CX P w K mg base N qual scope f cdv A outer s H E) body t /\ t { nx:=fun _ H'=>Q .non H',rt:=Q } (start N vs) H):
  FnOk P w K mg base CX (k + 1) f (PySem.W.fnOf name qual params body scope dV kV doc pm an cdv ct) ps sp:=by
 refine ⟨len,fun A outer s H args us vs Q E hr e0 hb r hsp=>?_⟩
 have hl:=len _ _ _ _ hsp
 have KX:K.In s.heap:=e0.mod.kin.keeps fun b o e=>(e0.bs b o e).1
 have lim:s.heap.NoLimit:=e0.mod.nolimit.keeps fun b o e=>(e0.bs b o e).1
 have hkind:∀ y∈ps.zip us,scope.names.lookup y.1=some .local \/ (scope.names.lookup y.1=some .cell /\ ((cellsFrom (s.heap.objs.size + 1) scope.names []).lookup y.1).isSome=true):=fun ⟨n,v⟩ hy=>by
  rcases S.par n (List.of_mem_zip hy).1 with q | q
  ·exact .inl q
  ·exact .inr ⟨q,PySem.W.cellsFrom_some _ _ _ (.inl q)⟩
 refine codeAny_call_function hr.depth (KX _ _ lk) rfl S.co S.gen rfl (PySem.W.codeRec_of KX hcd) (hb _ _ _ _ ?_)
 refine wpAny_newFunctionEnv_cells S.kind hkind fun env he s1 x=>?_
 subst he
 refine ⟨lim.keeps x.toInCall.keep,codeAny_func ?_⟩
 obtain ⟨t,ht,hq⟩:=hbody A outer s H vs Q E (hr.deeper _) hsp
 have I:Inv (cxOf CX P w K mg base N qual scope f cdv A outer s H E) [] (start N vs) H s1:=zgS S hr.hd e0 hl r x
 refine wpAny_mono (ht [] s1 (start N vs) H _ I hq) (fun fl s' hs=>?_) fun e s' hs=>hs
 have fin:∀ {σ':St} {H':Hp} {v:V} {u:Value},Inv (cxOf CX P w K mg base N qual scope f cdv A outer s H E) [] σ' H' s'->RelV v u->Q v H'->CE outer P w H s Q u s':=
  fun {σ' H' v u} J rv q=>⟨v,H',J.os,J.bare,J.base,J.hok,rv,q⟩
 cases fl with
 | ret u=>
   obtain ⟨v,σ',H',J,rv,q⟩:=hs
   exact fin J rv q
 | next=>
   obtain ⟨σ',H',J,q⟩:=hs
   exact fin (v:=V.non) (u:=Value.none) J rfl q
 | brk=>
   obtain ⟨_,_,_,q⟩:=hs
   exact False.elim q
 | cont=>
   obtain ⟨_,_,_,q⟩:=hs
   exact False.elim q
end L2
namespace L2
open PySem PySem.Spec PyProof.Rows
section
variable {X:Cx} {x:Str} {p pos:Pos} {e:Expr} {es:List Expr} {t:TA} {id T:String} {r:List V->Hp->VK->Prop}
noncomputable def tCB (r:List V->Hp->VK->Prop) (t:TA):TE:=fun σ H Q=>t σ H fun vs H1=>r vs H1 Q
theorem zdr (hc:CallR X (.builtin id) r) (hg:Gl X x) (hm:X.mg x=none) (hv:bootBuiltins x=some (.builtin id)) (ha:PA X (e :: es) t) (hn:x≠"__name__":=by decide) (hdb:(x == ("__debug__":Str))=false:=by decide)
  (he:starEach (e :: es) X.env=(false,eval e X.env) :: starEach es X.env:=by rfl) (hpl:(backTo pos (starEach es X.env)).any (·.1)=false:=by rfl):PE X (.Call (.Name x p) (e :: es) [] pos) (tCB r t):=by
 intro pins s σ H Q I h
 refine wpAny_Call_Name_kw (zdk I hg hm hv ?_ hn hdb)
 exact PyProof.Rows.callWith_builtin1 (thn (ha pos pins s σ H _ I h) fun us s1 ⟨vs,H1,I1,r1,q1⟩=>hc pins s1 σ H1 vs us Q I1 r1 q1) he hpl
theorem zeZ (hc:CallR X (.type T) r) (hg:Gl X x) (hm:X.mg x=none) (hv:bootBuiltins x=some (.type T)) (ha:PA X (e :: es) t) (hn:x≠"__name__":=by decide) (hdb:(x == ("__debug__":Str))=false:=by decide)
  (he:starEach (e :: es) X.env=(false,eval e X.env) :: starEach es X.env:=by rfl) (hpl:(backTo pos (starEach es X.env)).any (·.1)=false:=by rfl):PE X (.Call (.Name x p) (e :: es) [] pos) (tCB r t):=by
 intro pins s σ H Q I h
 refine wpAny_Call_Name_kw (zdk I hg hm hv ?_ hn hdb)
 exact PyProof.Rows.callWith_type1 (thn (ha pos pins s σ H _ I h) fun us s1 ⟨vs,H1,I1,r1,q1⟩=>hc pins s1 σ H1 vs us Q I1 r1 q1) he hpl
end
end L2
namespace HT
open PySem PyProof.Rows
section
open PySem.SeqAt
open PySem.AutoSeq1 (wpAny_loadPart')
open PySem.MeetsSeq PySem.MeetsSeq2 PySem.MeetsSeq3
end
section
variable {prog:Program} {w:World} {A:Around} {E:Value->Shared->Prop} {s:Shared}
theorem zoM {t b:Addr} {vs ws:List Value} {Q:Value->Shared->Prop} (ht:IsTup s.heap t vs.toArray) (hb:IsTup s.heap b ws.toArray) (hv:vs≠[])
  (h1:ws=[]->Q (.ref t) s) (h2:ws≠[]->Q (.ref s.heap.objs.size) { s with heap:=s.heap.push { cls:=.type "tuple",data:=.seq (vs ++ ws).toArray } })
  (hsz:vs.length + ws.length<=sizeLine):wpAny (model prog w) A (binaryOp .Add (.ref t) (.ref b)) Q E s:=by
 obtain ⟨⟨cls,dd,data,sl⟩,ho,hc,n,hd⟩:=id ht
 obtain ⟨⟨cls2,dd2,data2,sl2⟩,ho2,hc2,n2,hd2⟩:=id hb
 simp only at hc hd hc2 hd2
 subst hc hd hc2 hd2
 have e:vs.toArray ++ ws.toArray=(vs ++ ws).toArray:=by simp
 by_cases hw:ws=[]
 ·exact concat_meets ⟨_,ho,rfl⟩ ⟨_,ho2,rfl⟩ noFill_tuple_add seq_tuple_add PySem.F.slot_tuple_add PySem.F.entry_tuple_add (PySem.F.args_tuple_add_2 _ _)
   (tuple_addW1 t b vs.toArray ws.toArray n n2 dd dd2 sl sl2 (by simpa using hv) (by simp [hw])) ⟨ho,ho2,h1 hw⟩
 ·refine concat_meets ⟨_,ho,rfl⟩ ⟨_,ho2,rfl⟩ noFill_tuple_add seq_tuple_add PySem.F.slot_tuple_add PySem.F.entry_tuple_add (PySem.F.args_tuple_add_2 _ _)
   (tuple_addW2 t b vs.toArray ws.toArray n n2 dd dd2 sl sl2 (by simpa using hv) (by simpa using hw) (by rw [List.size_toArray,List.size_toArray]; exact hsz)) ⟨ho,ho2,?_⟩
  rw [e]
  exact h2 hw
noncomputable def sIx (n d:Nat):Option Int->Nat
 | none=>d
 | some v=>if v < 0 then (v + (n:Int)).toNat else min v.toNat n
end
end HT
namespace L2
open PySem PySem.Spec PyProof.Rows
noncomputable abbrev TO:=St->Hp->(Option Int->Hp->Prop)->Prop
noncomputable def PO (X:Cx) (e:Option Expr) (t:TO):Prop:=
 ∀ (pins:List (Addr×Obj)) (s:Shared) (σ:St) (H:Hp) (Q:Option Int->Hp->Prop),Inv X pins σ H s->t σ H Q->
   wpAny (model X.prog X.w) X.A (evalPart e X.env) (fun u s'=>∃ o H',Inv X pins σ H' s' /\ IsPart u o /\ Q o H') X.xe s
noncomputable def tPart (t:TE):TO:=fun σ H Q=>t σ H fun x H1=>∃ i,x=.int i /\ Q (some i) H1
theorem zfn {ns:List Int}:∀ {us:List Value},Vals (ns.map V.int) us->IntsAre us ns:=by
 induction ns with
 | nil=>intro us r; rw [List.map_nil] at r; cases r; exact .nil
 | cons n ns ih=>
   intro us r
   rw [List.map_cons] at r
   cases r with
   | cons r1 r2=>
     obtain ⟨t,e⟩:=r1
     subst e
     exact .cons n t (ih r2)
section
variable {X:Cx} {e:Expr} {te:TE} {lo hi:Option Expr} {tl th:TO} {pos p2:Pos}
theorem zo0 (h:PE X e te):PO X (some e) (tPart te):=by
 intro pins s σ H Q I hw
 rw [evalPart_some]
 refine thn (h pins s σ H _ I hw) fun u s1 ⟨x,H1,I1,r1,q1⟩=>?_
 obtain ⟨i,rfl,q⟩:=q1
 obtain ⟨t,rfl⟩:=r1
 exact ⟨some i,H1,I1,.int i t,q⟩
noncomputable def SlR (X:Cx) (r:V->Option Int->Option Int->Hp->VK->Prop):Prop:=
 ∀ (pins:List (Addr×Obj)) (s:Shared) (σ:St) (H:Hp) (x:V) (v vl vu:Value) (lo hi:Option Int) (sl:Addr) (Q:VK),Inv X pins σ H s->RelV x v->s.heap.IsSliceOf sl vl vu .none->IsPart vl lo->IsPart vu hi->r x lo hi H Q->
   ∃ T id,typeLookup (.type T) "__getitem__"=pure (some (.builtin id)) /\ s.TypeIs v T /\ wpAny (model X.prog X.w) X.A (getItem v (.ref sl)) (EP X pins σ Q) X.xe s
noncomputable def tSl (r:V->Option Int->Option Int->Hp->VK->Prop) (te:TE) (tl th:TO):TE:=fun σ H Q=>te σ H fun x H1=>tl σ H1 fun l H2=>th σ H2 fun u H3=>r x l u H3 Q
theorem zmz {r:V->Option Int->Option Int->Hp->VK->Prop} (hr:SlR X r) (he:PE X e te) (hl:PO X lo tl) (hu:PO X hi th):PE X (.Subscript e (.Slice lo hi none p2) pos) (tSl r te tl th):=by
 intro pins s σ H Q I h
 refine Subscript_ (thn (he pins s σ H _ I h) fun v s1 ⟨x,H1,I1,r1,q1⟩=>?_)
 refine wpAny_Slice (thn (hl pins s1 σ H1 _ I1 q1) fun vl s2 ⟨l,H2,I2,pl,q2⟩=>thn (hu pins s2 σ H2 _ I2 q2) fun vu s3 ⟨u,H3,I3,pu,q3⟩=>?_)
 rw [evalPart_none]
 refine wpAny_pure ?_
 have I4:Inv X pins σ H3 { s3 with heap:=s3.heap.push { cls:=.type "slice",data:=.fields #[vl,vu,.none] } }:=I3.kept (t':=s3.toks) fun b ob q=>Heap.get?_push_of_some _ q
 obtain ⟨T,id,hT,ht,hg⟩:=hr pins { s3 with heap:=s3.heap.push { cls:=.type "slice",data:=.fields #[vl,vu,.none] } } σ H3 x v vl vu l u s3.heap.objs.size Q I4 r1 (Heap.IsSliceOf.new ..) pl pu q3
 show wpAny (model X.prog X.w) X.A (subscriptTail e (.Slice lo hi none p2) v (.ref s3.heap.objs.size)) (EP X pins σ Q) X.xe { s3 with heap:=s3.heap.push { cls:=.type "slice",data:=.fields #[vl,vu,.none] } }
 exact tail_any (ops:=[.ref s3.heap.objs.size,v]) ht hT hg (by with_unfolding_all rfl)
noncomputable def cutV (xs:List V) (lo hi:Option Int):List V:=(xs.drop (HT.sIx xs.length 0 lo)).take (HT.sIx xs.length xs.length hi - HT.sIx xs.length 0 lo)
theorem zhW (xs:List V) (lo hi:Option Int):(cutV xs lo hi).length<=xs.length:=by
 unfold cutV
 rw [List.length_take,List.length_drop]
 omega
noncomputable def rCatT (K:PySem.W.Frag):R2:=fun x y H Q=>∃ a b xs ys,x=.ref a /\ y=.ref b /\ SqT K H a xs /\ SqT K H b ys /\ xs≠[] /\ xs.length + ys.length<=sizeLine /\
 (ys=[]->Q (.ref a) H) /\ (ys≠[]->∀ p,H p=none->Q (.ref p) (upd H p (.tup (xs ++ ys))))
theorem Vals.nil_iff {xs:List V} {us:List Value} (r:Vals xs us):us=[]↔xs=[]:=by
 cases r with
 | nil=>simp
 | cons _ _=>simp
theorem zo5:OpR X (binaryOp .Add) (rCatT X.K):=by
 intro pins s σ H x y v u Q I rx ry h
 obtain ⟨a,b,xs,ys,rfl,rfl,ha,hb,hx,hz,q1,q2⟩:=h
 cases rx
 cases ry
 obtain ⟨its,r1,p1,_⟩:=I.tuple ha
 obtain ⟨its2,r2,p2,_⟩:=I.tuple hb
 refine HT.zoM p1 p2 (fun z=>hx (r1.nil_iff.mp z)) (fun z=>⟨.ref a,H,I,rfl,q1 (r2.nil_iff.mp z)⟩) (fun z=>?_) (by rw [<- r1.length,<- r2.length]; exact hz)
 refine ⟨.ref s.heap.objs.size,_,I.laid (t':=s.toks) (o:=.tup (xs ++ ys)) (fun b ob q=>Heap.get?_push_of_some _ q) (Nat.le_refl _) ?_,rfl,q2 (fun w=>z (r2.nil_iff.mpr w)) _ (I.hok.fresh (Nat.le_refl _))⟩
 exact ⟨by rw [List.length_append]; exact hz,_,r1.append r2,IsTup.new _ _⟩
end
end L2
namespace L2
open PySem PySem.Spec PyProof.Rows
noncomputable def ixN (n:Nat) (i:Int):Option Nat:=if 0<=i then (if i < n then some i.toNat else none) else if -(n:Int)<=i then some (i + n).toNat else none
noncomputable def atI {α:Type} (xs:List α) (i:Int):Option α:=(ixN xs.length i).bind fun j=>xs[j]?
theorem zj1 {n:Nat} {i:Int} {j:Nat} (h:ixN n i=some j):seqIndex? i n=some j /\ j < n /\ -(n:Int)<=i /\ i < n:=by
 unfold ixN at h
 by_cases h0:0<=i
 ·rw [if_pos h0] at h
  by_cases h1:i < n
  ·rw [if_pos h1] at h
   have e:i.toNat=j:=Option.some.inj h
   exact ⟨by rw [seqIndex_of h0 h1,e],by omega,by omega,h1⟩
  ·rw [if_neg h1] at h; cases h
 ·rw [if_neg h0] at h
  by_cases h1: -(n:Int)<=i
  ·rw [if_pos h1] at h
   have e:(i + n).toNat=j:=Option.some.inj h
   exact ⟨by rw [seqIndex_neg (by omega) h1,e],by omega,h1,by omega⟩
  ·rw [if_neg h1] at h; cases h
theorem zf1 {α:Type} {xs:List α} {i:Int} {v:α} (h:atI xs i=some v):∃ j,seqIndex? i xs.length=some j /\ xs[j]?=some v /\ j < xs.length /\ -(xs.length:Int)<=i /\ i < xs.length:=by
 unfold atI at h
 cases e:ixN xs.length i with
 | none=>rw [e] at h; cases h
 | some j=>
   rw [e] at h
   obtain ⟨h1,h2,h3,h4⟩:=zj1 e
   exact ⟨j,h1,h,h2,h3,h4⟩
theorem zdC {α:Type} {xs:List α} {j:Nat} {v:α} (h:xs[j]?=some v):atI xs (j:Int)=some v:=by
 have hj:j < xs.length:=(List.getElem?_eq_some_iff.mp h).1
 have e:ixN xs.length (j:Int)=some j:=by
  unfold ixN
  rw [if_pos (by omega),if_pos (by omega)]; simp
 unfold atI; rw [e]; exact h
noncomputable def PlainIx (b:Expr):Prop:=∀ o i,subscripted b false o i=operate [o,i] (getItem o i)
noncomputable def IxR (X:Cx) (r:R2):Prop:=
 ∀ (value slice:Expr) (pins:List (Addr×Obj)) (s:Shared) (σ:St) (H:Hp) (x y:V) (v u:Value) (Q:VK),Inv X pins σ H s->RelV x v->RelV y u->r x y H Q->
   subscripted slice false v u=operate [v,u] (getItem v u)->wpAny (model X.prog X.w) X.A (subscriptTail value slice v u) (EP X pins σ Q) X.xe s
noncomputable def MtR (X:Cx) (id:String) (r:V->List V->Hp->VK->Prop):Prop:=
 ∀ (pins:List (Addr×Obj)) (s:Shared) (σ:St) (H:Hp) (x:V) (xs:List V) (v:Value) (us:List Value) (Q:VK),Inv X pins σ H s->RelV x v->Vals xs us->r x xs H Q->
   wpAny (model X.prog X.w) X.A (call (.builtin id) (v :: us)) (EP X pins σ Q) X.xe s
section
variable {X:Cx} {a b:Expr} {ta tb:TE} {pos:Pos}
theorem IxR.or {r r':R2} (h:IxR X r) (h':IxR X r'):IxR X (fun x y H Q=>r x y H Q \/ r' x y H Q):=by
 intro value slice pins s σ H x y v u Q I rx ry q hs
 rcases q with q | q
 ·exact h value slice pins s σ H x y v u Q I rx ry q hs
 ·exact h' value slice pins s σ H x y v u Q I rx ry q hs
theorem zqW {r:R2} (hr:IxR X r) (ha:PE X a ta) (hb:PE X b tb) (hs:PlainIx b):PE X (.Subscript a b pos) (tOp r ta tb):=by
 intro pins s σ H Q I h
 exact Subscript_ (binT ha hb I h fun v u s2 x y H2 I2 rx ry q=>hr a b pins s2 σ H2 x y v u Q I2 rx ry q (hs _ _))
noncomputable def rIxL (K:PySem.W.Frag):R2:=fun x y H Q=>∃ p xs i v,x=.ref p /\ y=.int i /\ SqL K H p xs /\ atI xs i=some v /\ Q v H
noncomputable def rIxT (K:PySem.W.Frag):R2:=fun x y H Q=>∃ p xs i v,x=.ref p /\ y=.int i /\ SqT K H p xs /\ atI xs i=some v /\ Q v H
noncomputable def rIxS:R2:=fun x y H Q=>∃ z i c,x=.str z /\ y=.int i /\ z.length<=sizeLine /\ atI z.cps.toList i=some c /\ Q (.str ⟨#[c]⟩) H
theorem zod:IxR X (rIxL X.K):=by
 intro value slice pins s σ H x y v u Q I rx ry h hs
 obtain ⟨p,xs,i,z,rfl,rfl,hq,he,q⟩:=h
 cases rx
 obtain ⟨t,rfl⟩:=ry
 obtain ⟨its,r,pl,hz⟩:=I.list hq
 obtain ⟨j,h1,h2,h3,h4,h5⟩:=zf1 he
 obtain ⟨w,ew,rw'⟩:=r.get h2
 have hl:=r.length
 have hn:=line63
 have fin:EP X pins σ Q w s:=⟨z,H,I,rw',q⟩
 by_cases h0:0<=i
 ·have hj:i.toNat=j:=by
   rw [seqIndex_of h0 h5] at h1
   exact Option.some.inj h1
  exact item_listR pl.isList h0 (by omega) (by rw [hj]; simpa using ew) fin hs
 ·have hj:(i + (its.toArray.size:Int)).toNat=j:=by
   rw [seqIndex_neg (by omega) h4] at h1
   rw [List.size_toArray,<- hl]
   exact Option.some.inj h1
  exact subscriptTail_builtinR (x:=w) pl.isList.typeIs slot_list_getitem.lookup
   (wpAny_getItem_list_neg (Q:=fun r s'=>r=w /\ EP X pins σ Q r s') pl.isList (by omega) (by rw [List.size_toArray] <;> omega) (by omega) (by rw [hj]; simpa using ew) ⟨rfl,fin⟩) hs
theorem zqs:IxR X (rIxT X.K):=by
 intro value slice pins s σ H x y v u Q I rx ry h hs
 obtain ⟨p,xs,i,z,rfl,rfl,hq,he,q⟩:=h
 cases rx
 obtain ⟨t,rfl⟩:=ry
 obtain ⟨its,r,pl,hz⟩:=I.tuple hq
 obtain ⟨j,h1,h2,h3,h4,h5⟩:=zf1 he
 obtain ⟨w,ew,rw'⟩:=r.get h2
 have hl:=r.length
 have hn:=line63
 have fin:EP X pins σ Q w s:=⟨z,H,I,rw',q⟩
 exact subscriptTail_builtinR (x:=w) pl.typeIs slot_tuple_getitem.lookup
  (getItem_tuple (j:=j) (Q:=fun r s'=>r=w /\ EP X pins σ Q r s') pl (by omega) (by omega) (by rw [List.size_toArray,<- hl]; exact h1) (by simpa using ew) ⟨rfl,fin⟩) hs
theorem zqq:IxR X rIxS:=by
 intro value slice pins s σ H x y v u Q I rx ry h hs
 obtain ⟨z,i,c,rfl,rfl,hz,he,q⟩:=h
 obtain ⟨t,rfl⟩:=rx
 obtain ⟨t',rfl⟩:=ry
 obtain ⟨j,h1,h2,h3,h4,h5⟩:=zf1 he
 have hl:z.cps.toList.length=z.length:=by simp [Str.length]
 rw [hl] at h1 h4 h5
 have hn:=line63
 exact tail_any (typeIs_str s z t) slot_str_getitem.lookup (getItem_str (c:=c) (by
  have e1:decide (i < -(2 ^ 63:Int))=false:=decide_eq_false (by omega)
  have e2:decide (i >=2 ^ 63)=false:=decide_eq_false (by omega)
  rw [e1,e2,Bool.or_false]) (by rw [h1]; simpa using h2) ⟨.str ⟨#[c]⟩,H,I.tok _,⟨_,rfl⟩,q⟩) hs
noncomputable def rIx (K:PySem.W.Frag):R2:=fun x y H Q=>rIxL K x y H Q \/ rIxT K x y H Q \/ rIxS x y H Q
theorem zpK:IxR X (rIx X.K):=zod.or (zqs.or zqq)
theorem zjh (its:List Value) (n j:Nat) (u:Value):Obj.mapSeq (·.setIfInBounds j u) { cls:=.type "list",data:=.seq its.toArray n }={ cls:=.type "list",data:=.seq (its.set j u).toArray n }:=by
 simp [Obj.mapSeq]
theorem Inv.lst {pins:List (Addr×Obj)} {σ:St} {H:Hp} {s:Shared} {p:Addr} {xs:List V} (I:Inv X pins σ H s) (h:H p=some (.lst xs)):
  ∃ (its:List Value) (n:Nat),Vals xs its /\ s.heap.get? p=some { cls:=.type "list",data:=.seq its.toArray n } /\ xs.length<=sizeLine:=by
 obtain ⟨z,its,n,r,e⟩:=I.hok p _ h
 exact ⟨its,n,r,e,z⟩
theorem Inv.lstUpd {pins:List (Addr×Obj)} {σ:St} {H:Hp} {s:Shared} {p:Addr} {xs ys:List V} {its its':List Value} {n n':Nat} {f:Obj->Obj} (I:Inv X pins σ H s) (h:H p=some (.lst xs))
  (ho:s.heap.get? p=some { cls:=.type "list",data:=.seq its.toArray n }) (hf:f { cls:=.type "list",data:=.seq its.toArray n }={ cls:=.type "list",data:=.seq its'.toArray n' }) (r:Vals ys its') (hz:ys.length<=sizeLine) (t:Nat):
  Inv X pins σ (upd H p (.lst ys)) { s with heap:=s.heap.update p f,toks:=t }:=by
 have e:(s.heap.update p f).get? p=some { cls:=.type "list",data:=.seq its'.toArray n' }:=by
  rw [Heap.get?_update_self f ho (by rw [hf] <;> rfl),hf]
 refine I.write (x:=p) (e:=p) (by rw [h]; trivial) (.inl rfl) (fun b u hb q=>(Heap.get?_update_other _ _ (Ne.symm hb)).trans q) ⟨_,e⟩ ?_
 exact ⟨hz,its',n',r,e⟩
noncomputable def rSetL:V->V->V->Hp->(Hp->Prop)->Prop:=fun o i v H Q=>∃ p xs k j,o=.ref p /\ i=.int k /\ H p=some (.lst xs) /\ ixN xs.length k=some j /\ Q (upd H p (.lst (xs.set j v)))
theorem zis:PSet X rSetL:=by
 intro pins s σ H o i v ov iv u Q I ro ri rv h
 obtain ⟨p,xs,k,j,rfl,rfl,hp,hj,q⟩:=h
 cases ro
 obtain ⟨t,rfl⟩:=ri
 obtain ⟨its,n,r,ho,hz⟩:=I.lst hp
 obtain ⟨h1,h2,h3,h4⟩:=zj1 hj
 have hl:=r.length
 have hn:=line63
 have I':Inv X pins σ (upd H p (.lst (xs.set j v))) { s with heap:=s.heap.update p (Obj.mapSeq (·.setIfInBounds j u)) }:=
  I.lstUpd hp ho (zjh its n j u) (r.set rv j) (by rw [List.length_set]; exact hz) s.toks
 by_cases h0:0<=k
 ·have hk:k.toNat=j:=by
   rw [seqIndex_of h0 h4] at h1
   exact Option.some.inj h1
  exact PySem.W.ki_setAt ho h0 (by omega) (by rw [List.size_toArray,<- hl]; exact h4) (by rw [hk]; exact ⟨_,I',q⟩)
 ·have hk:(k + (its.toArray.size:Int)).toNat=j:=by
   rw [seqIndex_neg (by omega) h3] at h1
   rw [List.size_toArray,<- hl]
   exact Option.some.inj h1
  exact PySem.W.ki_setBack ho (by omega) (by rw [List.size_toArray,<- hl]; exact h3) (by omega) (by rw [hk]; exact ⟨_,I',q⟩)
theorem zg6 (lo hi:Option Int) (n:Nat):(sliceBounds lo hi none n).1=((HT.sIx n 0 lo:Nat):Int) /\ (sliceBounds lo hi none n).2.1=((HT.sIx n n hi:Nat):Int) /\ (sliceBounds lo hi none n).2.2=1:=by
 refine ⟨?_,?_,rfl⟩
 ·cases lo with
  | none=>simp [sliceBounds,HT.sIx]
  | some i=>
    simp only [sliceBounds,HT.sIx,Option.getD_none,show (1:Int) > 0 by decide,if_true]
    by_cases h:i < 0
    ·simp only [h,if_true] <;> omega
    ·simp only [h,if_false] <;> omega
 ·cases hi with
  | none=>simp [sliceBounds,HT.sIx]
  | some i=>
    simp only [sliceBounds,HT.sIx,Option.getD_none,show (1:Int) > 0 by decide,if_true]
    by_cases h:i < 0
    ·simp only [h,if_true] <;> omega
    ·simp only [h,if_false] <;> omega
theorem zfR (its:List Value) (lo hi:Option Int):slicePick its.toArray lo hi none=((its.drop (HT.sIx its.length 0 lo)).take (HT.sIx its.length its.length hi - HT.sIx its.length 0 lo)).toArray:=by
 obtain ⟨h1,h2,h3⟩:=zg6 lo hi its.toArray.size
 unfold slicePick
 rw [h1,h2,h3]
 simp only [sliceRange_one,pick_run,List.size_toArray] <;> rfl
noncomputable def rSlL (K:PySem.W.Frag):V->Option Int->Option Int->Hp->VK->Prop:=fun x lo hi H Q=>∃ a xs,x=.ref a /\ SqL K H a xs /\ ∀ p,H p=none->Q (.ref p) (upd H p (.lst (cutV xs lo hi)))
theorem znY:SlR X (rSlL X.K):=by
 intro pins s σ H x v vl vu lo hi sl Q I rx hs pl pu h
 obtain ⟨a,xs,rfl,hx,q⟩:=h
 cases rx
 obtain ⟨its,r,ht,hz⟩:=I.list hx
 have hlen:=r.length
 refine ⟨"list",_,slot_list_getitem.lookup,ht.isList.typeIs,?_⟩
 refine wpAny_getItem_list_slice ht.isList hs pl pu .none (by simp) ?_ (by rw [List.size_toArray] <;> omega)
 rw [zfR,<- hlen]
 refine ⟨.ref s.heap.objs.size,_,I.laid (t':=s.toks) (o:=.lst (cutV xs lo hi)) (fun b ob q=>Heap.get?_push_of_some _ q) (Nat.le_refl _) ?_,rfl,q _ (I.hok.fresh (Nat.le_refl _))⟩
 exact ⟨Nat.le_trans (zhW xs lo hi) hz,_,0,(r.drop (HT.sIx xs.length 0 lo)).take (HT.sIx xs.length xs.length hi - HT.sIx xs.length 0 lo),Heap.get?_push_size _ rfl⟩
noncomputable def flatV:V->Bool
 | .non=>true
 | .bl _=>true
 | .int _=>true
 | .str _=>true
 | _=>false
noncomputable def eqV:V->V->Bool
 | .non,.non=>true
 | .bl a,.bl b=>a == b
 | .bl a,.int b=>(if a then 1 else 0) == b
 | .int a,.bl b=>a == (if b then 1 else 0)
 | .int a,.int b=>a == b
 | .str a,.str b=>a == b
 | _,_=>false
theorem zpM {A:Around} {s:Shared} {y x:V} {u v:Value} (ry:RelV y u) (rx:RelV x v) (fy:flatV y=true) (fx:flatV x=true):SeqAt.EqAt A s u v (eqV y x):=by
 cases y with
 | non=>
   cases ry
   cases x with
   | non=>cases rx; exact SeqAt.EqAt.same _
   | bl b=>cases rx; exact SeqAt.EqAt.none_bool b
   | int b=>obtain ⟨t,rfl⟩:=rx; exact SeqAt.EqAt.none_int b t
   | str b=>obtain ⟨t,rfl⟩:=rx; exact SeqAt.EqAt.none_str b t
   | _=>exact absurd (show false=true from fx) Bool.false_ne_true
 | bl a=>
   cases ry
   cases x with
   | non=>cases rx; exact SeqAt.EqAt.bool_none a
   | bl b=>cases rx; exact SeqAt.EqAt.bool_bool a b
   | int b=>obtain ⟨t,rfl⟩:=rx; exact SeqAt.EqAt.bool_int a b t
   | str b=>obtain ⟨t,rfl⟩:=rx; exact SeqAt.EqAt.bool_str a b t
   | _=>exact absurd (show false=true from fx) Bool.false_ne_true
 | int a=>
   obtain ⟨t',rfl⟩:=ry
   cases x with
   | non=>cases rx; exact SeqAt.EqAt.int_none a t'
   | bl b=>cases rx; exact SeqAt.EqAt.int_bool a t' b
   | int b=>obtain ⟨t,rfl⟩:=rx; exact SeqAt.EqAt.int_int a t' b t
   | str b=>obtain ⟨t,rfl⟩:=rx; exact SeqAt.EqAt.int_str a t' b t
   | _=>exact absurd (show false=true from fx) Bool.false_ne_true
 | str a=>
   obtain ⟨t',rfl⟩:=ry
   cases x with
   | non=>cases rx; exact SeqAt.EqAt.str_none a t'
   | bl b=>cases rx; exact SeqAt.EqAt.str_bool a t' b
   | int b=>obtain ⟨t,rfl⟩:=rx; exact SeqAt.EqAt.str_int a t' b t
   | str b=>obtain ⟨t,rfl⟩:=rx; exact SeqAt.EqAt.str_str a t' b t
   | _=>exact absurd (show false=true from fx) Bool.false_ne_true
 | _=>exact absurd (show false=true from fy) Bool.false_ne_true
noncomputable def eqU (x:V) (u:Value):Bool:=match u with
 | .none=>eqV .non x
 | .bool b=>eqV (.bl b) x
 | .int i _=>eqV (.int i) x
 | .str z _=>eqV (.str z) x
 | _=>false
theorem znw {x y:V} {u:Value} (r:RelV y u) (f:flatV y=true):eqU x u=eqV y x:=by
 cases y with
 | non=>cases r; rfl
 | bl b=>cases r; rfl
 | int i=>obtain ⟨t,rfl⟩:=r; rfl
 | str z=>obtain ⟨t,rfl⟩:=r; rfl
 | _=>exact absurd (show false=true from f) Bool.false_ne_true
theorem zeL {x:V}:∀ {xs:List V} {us:List Value},Vals xs us->xs.all flatV=true->us.any (eqU x)=xs.any fun y=>eqV y x
 | _,_,.nil,_=>rfl
 | y :: xs,u :: us,.cons r t,f=>by
   rw [List.all_cons,Bool.and_eq_true] at f
   rw [List.any_cons,List.any_cons,znw r f.1,zeL t f.2]
theorem zdw {A:Around} {s:Shared} {x:V} {v:Value} (rx:RelV x v) (fx:flatV x=true):∀ {xs:List V} {us:List Value},Vals xs us->xs.all flatV=true->∀ u∈us,SeqAt.EqAt A s u v (eqU x u)
 | _,_,.nil,_=>fun u hu=>by cases hu
 | y :: xs,u :: us,.cons r t,f=>fun u' hu=>by
   rw [List.all_cons,Bool.and_eq_true] at f
   rcases List.mem_cons.mp hu with rfl | hu
   ·rw [znw r f.1]; exact zpM r rx f.1 fx
   ·exact zdw rx fx t f.2 u' hu
noncomputable def inV (x:V) (xs:List V):Bool:=xs.any fun y=>eqV y x
noncomputable def rIn (K:PySem.W.Frag) (neg:Bool):R2:=fun x y H Q=>∃ p xs,y=.ref p /\ (SqL K H p xs \/ SqT K H p xs) /\ flatV x=true /\ xs.all flatV=true /\ Q (.bl (if neg then !inV x xs else inV x xs)) H
theorem zl9:OpR X (compareOp .In) (rIn X.K false):=by
 intro pins s σ H x y v u Q I rx ry h
 obtain ⟨p,xs,rfl,hq,fx,fs,q⟩:=h
 cases ry
 rcases hq with hq | hq
 ·obtain ⟨its,r,pl,hz⟩:=I.list hq
  refine SeqAt.in_listAt (eqU x) pl.isList (fun w hw=>zdw rx fx r fs w (by simpa using hw)) ⟨.bl _,H,I,rfl,?_⟩
  rw [show its.toArray.any (eqU x)=its.any (eqU x) by simp,zeL r fs]
  exact q
 ·obtain ⟨its,r,pl,hz⟩:=I.tuple hq
  refine SeqAt.in_tupleAt (eqU x) pl (fun w hw=>zdw rx fx r fs w (by simpa using hw)) ⟨.bl _,H,I,rfl,?_⟩
  rw [show its.toArray.any (eqU x)=its.any (eqU x) by simp,zeL r fs]
  exact q
theorem zgT:OpR X (compareOp .NotIn) (rIn X.K true):=by
 intro pins s σ H x y v u Q I rx ry h
 obtain ⟨p,xs,rfl,hq,fx,fs,q⟩:=h
 cases ry
 rcases hq with hq | hq
 ·obtain ⟨its,r,pl,hz⟩:=I.list hq
  refine SeqAt.notIn_listAt (eqU x) pl.isList (fun w hw=>zdw rx fx r fs w (by simpa using hw)) ⟨.bl _,H,I,rfl,?_⟩
  rw [show its.toArray.any (eqU x)=its.any (eqU x) by simp,zeL r fs]
  exact q
 ·obtain ⟨its,r,pl,hz⟩:=I.tuple hq
  refine SeqAt.notIn_tupleAt (eqU x) pl (fun w hw=>zdw rx fx r fs w (by simpa using hw)) ⟨.bl _,H,I,rfl,?_⟩
  rw [show its.toArray.any (eqU x)=its.any (eqU x) by simp,zeL r fs]
  exact q
theorem zgB:CallR X (.builtin "len") (fun xs H Q=>∃ p ys,xs=[.ref p] /\ (SqL X.K H p ys \/ SqT X.K H p ys) /\ Q (.int ys.length) H):=by
 intro pins s σ H xs us Q I r h
 obtain ⟨p,ys,rfl,hq,q⟩:=h
 obtain ⟨u,rfl,rx⟩:=vals1 r
 cases rx
 have hn:=line63
 rcases hq with hq | hq
 ·obtain ⟨its,r',pl,hz⟩:=I.list hq
  have hlen:=r'.length
  exact Calls.call_len_list pl.isList (by simp only [List.size_toArray] <;> omega) ⟨.int ys.length,H,I.tok _,⟨s.toks + 1,by rw [List.size_toArray,hlen]⟩,q⟩
 ·obtain ⟨its,r',pl,hz⟩:=I.tuple hq
  have hlen:=r'.length
  exact len_tuple pl (by simp only [List.size_toArray] <;> omega) ⟨.int ys.length,H,I.tok _,⟨s.toks + 1,by rw [List.size_toArray,hlen]⟩,q⟩
theorem zgf:CallR X (.builtin "len") (fun xs H Q=>∃ z,xs=[.str z] /\ z.length<=sizeLine /\ Q (.int z.length) H):=by
 intro pins s σ H xs us Q I r h
 obtain ⟨z,rfl,hz,q⟩:=h
 obtain ⟨u,rfl,t,rfl⟩:=vals1 r
 have hn:=line63
 exact len_str (by omega) ⟨.int z.length,H,I.tok _,⟨_,rfl⟩,q⟩
theorem CallR.or {f:Value} {r r':List V->Hp->VK->Prop} (h:CallR X f r) (h':CallR X f r'):CallR X f (fun xs H Q=>r xs H Q \/ r' xs H Q):=by
 intro pins s σ H xs us Q I rs q
 rcases q with q | q
 ·exact h pins s σ H xs us Q I rs q
 ·exact h' pins s σ H xs us Q I rs q
theorem zcG:CallR X (.type "list") (fun xs H Q=>∃ p ys,xs=[.ref p] /\ (SqL X.K H p ys \/ SqT X.K H p ys) /\ ∀ l,H l=none->Q (.ref l) (upd H l (.lst ys))):=by
 intro pins s σ H xs us Q I r h
 obtain ⟨p,ys,rfl,hq,q⟩:=h
 obtain ⟨u,rfl,rx⟩:=vals1 r
 cases rx
 have fin:∀ (its:List Value),Vals ys its->ys.length<=sizeLine->∀ (h':Heap) (c':Nat),(∀ b o',s.heap.get? b=some o'->h'.get? b=some o')->
   h'.get? s.heap.objs.size=some { cls:=.type "list",dict:=none,data:=.seq its.toArray c',slots:=#[] }->EP X pins σ Q (.ref s.heap.objs.size) { s with heap:=h' }:=fun its r' hz h' c' kp e=>
  ⟨.ref s.heap.objs.size,_,I.laid (t':=s.toks) kp (Nat.le_refl _) (show ObjOk X.prog X.w _ h' _ (.lst ys) from ⟨hz,its,c',r',e⟩),rfl,q _ (I.hok.fresh (Nat.le_refl _))⟩
 rcases hq with hq | hq
 ·obtain ⟨its,r',pl,hz⟩:=I.list hq
  have hlen:=r'.length
  obtain ⟨o,ho,hc,n,hd⟩:=pl.isList
  exact call_list_seq p (.inl rfl) ho hc hd (fun h' c' kp e=>fin its r' hz h' c' kp e) (by simp only [List.size_toArray] <;> omega)
 ·obtain ⟨its,r',pl,hz⟩:=I.tuple hq
  have hlen:=r'.length
  obtain ⟨o,ho,hc,n,hd⟩:=pl
  exact call_list_seq p (.inr rfl) ho hc hd (fun h' c' kp e=>fin its r' hz h' c' kp e) (by simp only [List.size_toArray] <;> omega)
theorem zdp:CallR X (.type "tuple") (fun xs H Q=>∃ p ys,xs=[.ref p] /\ ((SqL X.K H p ys /\ ∀ l,H l=none->Q (.ref l) (upd H l (.tup ys))) \/ (SqT X.K H p ys /\ Q (.ref p) H))):=by
 intro pins s σ H xs us Q I r h
 obtain ⟨p,ys,rfl,h⟩:=h
 obtain ⟨u,rfl,rx⟩:=vals1 r
 cases rx
 rcases h with ⟨hq,q⟩ | ⟨hq,q⟩
 ·obtain ⟨its,r',pl,hz⟩:=I.list hq
  have hlen:=r'.length
  refine call_tuple_list pl.isList (fun h' kp=>?_) (by simp only [List.size_toArray] <;> omega)
  have I1:Inv X pins σ H { s with heap:=h' }:=I.kept (t':=s.toks) kp
  have I2:Inv X pins σ (upd H h'.objs.size (.tup ys)) { s with heap:=h'.push { cls:=.type "tuple",data:=.seq its.toArray } }:=
   I1.laid (t':=s.toks) (fun b o e=>Heap.get?_push_of_some _ e) (Nat.le_refl _) (show ObjOk X.prog X.w _ _ _ (.tup ys) from ⟨hz,its,r',IsTup.new _ _⟩)
  exact ⟨.ref h'.objs.size,_,I2,rfl,q _ (I1.hok.fresh (Nat.le_refl _))⟩
 ·obtain ⟨its,r',pl,hz⟩:=I.tuple hq
  exact call_tuple_same pl ⟨.ref p,H,I,rfl,q⟩
noncomputable def tyV (K:PySem.W.Frag) (T:String) (x:V) (H:Hp):Prop:=match x with
 | .str _=>T="str"
 | .int _=>T="int"
 | .ref p=>(T="list" /\ ∃ xs,SqL K H p xs) \/ (T="tuple" /\ ∃ o,K.lookup p=some o /\ o.cls=.type "tuple" /\ o.dict=none) \/
   (T="dict" /\ ((∃ kvs,H p=some (.dK kvs)) \/ ∃ kvs,H p=some (.dT kvs))) \/ (T="set" /\ ∃ S n,H p=some (.set S n))
 | _=>False
theorem znT {pins:List (Addr×Obj)} {σ:St} {H:Hp} {s:Shared} {T:String} {x:V} {v:Value} (I:Inv X pins σ H s) (r:RelV x v) (ty:tyV X.K T x H):
  s.TypeIs v T /\ ∀ a,v=.ref a->∃ ob,s.heap.get? a=some ob /\ ob.dict=none:=by
 cases x with
 | str z=>
   obtain ⟨t,rfl⟩:=r
   cases (show T="str" from ty)
   exact ⟨typeIs_str s z t,fun _ e=>nomatch e⟩
 | int i=>
   obtain ⟨t,rfl⟩:=r
   cases (show T="int" from ty)
   exact ⟨typeIs_int s i t,fun _ e=>nomatch e⟩
 | ref p=>
   cases r
   rcases ty with ⟨rfl,xs,hq⟩ | ⟨rfl,o,hk,hc,hd⟩ | ⟨rfl,hk⟩ | ⟨rfl,S,n,hk⟩
   ·obtain ⟨its,_,pl,_⟩:=I.list hq
    refine ⟨pl.isList.typeIs,fun a e=>?_⟩
    cases e
    obtain ⟨o,n,e,c,hd,_⟩:=pl
    exact ⟨o,e,hd⟩
   ·refine ⟨⟨o,I.kIn p o hk,hc⟩,fun a e=>?_⟩
    cases e
    exact ⟨o,I.kIn _ o hk,hd⟩
   ·have z:∃ o,s.heap.get? p=some o /\ o.ExactDict:=by
     rcases hk with ⟨kvs,hk⟩ | ⟨kvs,hk⟩
     ·obtain ⟨_,_,_,_,o,_,_,e,ex,_⟩:=I.hok p _ hk
      exact ⟨o,e,ex⟩
     ·obtain ⟨_,_,_,_,o,_,_,e,ex,_⟩:=I.hok p _ hk
      exact ⟨o,e,ex⟩
    obtain ⟨o,e,ex⟩:=z
    refine ⟨⟨o,e,ex.1⟩,fun a e2=>?_⟩
    cases e2
    exact ⟨o,e,ex.2.1⟩
   ·obtain ⟨o,_,_,_,e,ex,_⟩:=I.hok p _ hk
    refine ⟨⟨o,e,ex.1⟩,fun a e2=>?_⟩
    cases e2
    exact ⟨o,e,ex.2.1⟩
 | _=>exact False.elim ty
noncomputable def tBM0 (K:PySem.W.Frag) (T:String) (r:V->List V->Hp->VK->Prop) (to:TE):TE:=fun σ H Q=>to σ H fun x H1=>tyV K T x H1 /\ r x [] H1 Q
noncomputable def tBM (K:PySem.W.Frag) (T:String) (r:V->List V->Hp->VK->Prop) (to:TE) (t:TA):TE:=fun σ H Q=>to σ H fun x H1=>tyV K T x H1 /\ t σ H1 fun xs H2=>r x xs H2 Q
variable {o e:Expr} {es:List Expr} {to:TE} {t:TA} {name:Str} {apos cpos:Pos} {T id:String} {r:V->List V->Hp->VK->Prop}
theorem znU (pa:PlainAttrs T) (slot:Slot T name id) (hty:typeOf (.builtin id)=pure (.type "method_descriptor")) (hm:MtR X id r) (ho:PE X o to)
  (hbase:attributeBase o name X.env (eval o X.env)=eval o X.env:=by rfl) (hline:(apos.endLine == cpos.line)=true:=by rfl):PE X (.Call (.Attribute o name apos) [] [] cpos) (tBM0 X.K T r to):=by
 intro pins s σ H Q I h
 refine wpAny_Call_method0_late hbase hline (thn (ho pins s σ H _ I h) fun v s1 ⟨x,H1,I1,r1,ty,q1⟩=>?_)
 obtain ⟨h1,h2⟩:=znT I1 r1 ty
 exact ⟨T,id,pa,slot,hty,h1,h2,Calls.callWith_builtin rfl (PySem.evalArgs_none (hm pins s1 σ H1 x [] v [] Q I1 r1 .nil q1))⟩
theorem zhK (pa:PlainAttrs T) (slot:Slot T name id) (hty:typeOf (.builtin id)=pure (.type "method_descriptor")) (hm:MtR X id r) (ho:PE X o to) (ha:PA X (e :: es) t)
  (hbase:attributeBase o name X.env (eval o X.env)=eval o X.env:=by rfl)
  (hfew:((backTo cpos (starEach (e :: es) X.env)).all (fun x=> !x.1) && (backToKw cpos (keywordEach [] X.env)).all (fun x=>x.1.isSome)
   && decide ((e :: es).length + ([]:List Keyword).length + (if ([]:List Keyword).isEmpty then 0 else 1) < 30))=true:=by rfl)
  (hline:(apos.endLine == cpos.line)=true:=by rfl) (hs:starEach (e :: es) X.env=(false,eval e X.env) :: starEach es X.env:=by rfl) (hplain:(backTo cpos (starEach es X.env)).any (·.1)=false:=by rfl):
  PE X (.Call (.Attribute o name apos) (e :: es) [] cpos) (tBM X.K T r to t):=by
 intro pins s σ H Q I h
 refine wpAny_Call_method_late hbase hfew hline rfl (thn (ho pins s σ H _ I h) fun v s1 ⟨x,H1,I1,r1,ty,q1⟩=>?_)
 obtain ⟨h1,h2⟩:=znT I1 r1 ty
 refine ⟨T,id,pa,slot,hty,h1,h2,?_⟩
 have hA:=ha cpos pins s1 σ H1 _ I1 q1
 rw [hs] at hA ⊢
 refine Calls.callWith_builtin (by show (false || (backTo cpos (starEach es X.env)).any (·.1))=false; rw [hplain] <;> rfl) (Calls.evalArgs_plain ?_)
 exact thn hA fun us s2 ⟨vs,H2,I2,r2,q2⟩=>hm pins s2 σ H2 x vs v us Q I2 r1 r2 q2
/- xs.append(e),list.index on a module's tuple .. are MtR facts of 06m -/
end
end L2
namespace L2
open PySem PySem.Spec PyProof.Rows
noncomputable def MtM (X:Cx) (id:String) (r:V->List V->Hp->VK->Prop):Prop:=
 ∀ (pins:List (Addr×Obj)) (s:Shared) (σ:St) (H:Hp) (x:V) (xs:List V) (v:Value) (us:List Value) (Q:VK),Inv X pins σ H s->RelV x v->Vals xs us->r x xs H Q->
   wpAny (model X.prog X.w) X.A (call (.builtin id) (v :: us)) (EP X pins σ Q) X.xe s
theorem Vals.one:∀ {x:V} {us:List Value},Vals [x] us->∃ u,us=[u] /\ RelV x u
 | _,_,.cons r .nil=>⟨_,rfl,r⟩
theorem Vals.zero:∀ {us:List Value},Vals [] us->us=[]
 | _,.nil=>rfl
theorem Vals.dropLast {xs:List V} {us:List Value} (h:Vals xs us):Vals xs.dropLast us.dropLast:=by
 induction h with
 | nil=>exact .nil
 | cons r t ih=>
   cases t with
   | nil=>exact .nil
   | cons q t'=>exact .cons r ih
theorem Vals.rep {xs:List V} {us:List Value} (h:Vals xs us):∀ k:Nat,Vals (List.replicate k xs).flatten (List.replicate k us).flatten
 | 0=>.nil
 | k + 1=>by
   rw [List.replicate_succ,List.replicate_succ,List.flatten_cons,List.flatten_cons]
   exact Vals.append h (Vals.rep h k)
theorem zji {α:Type} (l:List α):l.eraseIdx (l.length - 1)=l.dropLast:=by
 induction l with
 | nil=>rfl
 | cons a r ih=>
   cases r with
   | nil=>rfl
   | cons b r=>
     have e:(a :: b :: r).length - 1=((b :: r).length - 1) + 1:=by
      have h1:(a :: b :: r).length=r.length + 2:=rfl
      have h2:(b :: r).length=r.length + 1:=rfl
      omega
     rw [e,List.eraseIdx_cons_succ,ih]
     all_goals rfl
theorem zg9 (its:List Value):∀ (k:Nat) (acc:List Value),
  List.foldl (fun x1 x2=>x1 ++ x2) acc.toArray (List.replicate k its.toArray)=(acc ++ (List.replicate k its).flatten).toArray
 | 0,acc=>by simp
 | k + 1,acc=>by
   have e:acc.toArray ++ its.toArray=(acc ++ its).toArray:=by simp
   have e2:(acc ++ its) ++ (List.replicate k its).flatten=acc ++ (List.replicate (k + 1) its).flatten:=by
    rw [List.replicate_succ,List.flatten_cons,List.append_assoc]
   rw [<- e2,<- zg9 its k (acc ++ its),<- e,List.replicate_succ,List.foldl_cons]
section
variable {X:Cx} {pins:List (Addr×Obj)} {σ:St} {H:Hp} {s:Shared} {l b:Addr} {xs ys zs:List V}
theorem Inv.lset {its its':List Value} {n:Nat} {f:Array Value->Array Value} {t':Nat} (I:Inv X pins σ H s) (hH:H l=some (.lst xs))
  (e:s.heap.get? l=some { cls:=.type "list",data:=.seq its.toArray n }) (hf:f its.toArray=its'.toArray) (hv:Vals ys its') (hz:ys.length<=sizeLine):
  Inv X pins σ (upd H l (.lst ys)) { s with heap:=s.heap.update l (Obj.mapSeq f),toks:=t' }:=by
 have q:=PySem.IsL.update e f
 rw [hf] at q
 refine I.write (x:=l) (e:=l) (by rw [hH]; exact trivial) (.inl rfl) (fun b' u hb hu=>(Heap.get?_update_other s.heap (Obj.mapSeq f) (Ne.symm hb)).trans hu) ⟨_,q⟩ ?_
 exact ⟨hz,its',_,hv,q⟩
theorem Inv.lnew {its:List Value} {t':Nat} (I:Inv X pins σ H s) (hv:Vals ys its) (hz:ys.length<=sizeLine):
  Inv X pins σ (upd H s.heap.objs.size (.lst ys)) { s with heap:=s.heap.push { cls:=.type "list",data:=.seq its.toArray },toks:=t' }:=
 I.laid (fun _ _ q=>Heap.get?_push_of_some _ q) (Nat.le_refl _) ⟨hz,its,0,hv,Heap.get?_push_size _ rfl⟩
theorem Inv.fresh (I:Inv X pins σ H s):H s.heap.objs.size=none:=I.hok.fresh (Nat.le_refl _)
theorem Inv.lstM (I:Inv X pins σ H s) (hH:H l=some (.lst xs)):xs.length<=sizeLine /\ ∃ (its:List Value) (n:Nat),Vals xs its /\ xs.length=its.length /\ s.heap.get? l=some { cls:=.type "list",data:=.seq its.toArray n }:=by
 obtain ⟨z,its,n,r,e⟩:=I.hok l _ hH
 exact ⟨z,its,n,r,r.length,e⟩
theorem notLongL {n:Nat} (h:n<=sizeLine):Builtin.List.listTooLong n=false:=by
 unfold Builtin.List.listTooLong
 exact decide_eq_false (by omega)
end
section
variable {X:Cx}
noncomputable def rAppend:V->List V->Hp->VK->Prop:=fun x vs H Q=>∃ l xs y,x=.ref l /\ vs=[y] /\ H l=some (.lst xs) /\ xs.length < sizeLine /\ Q .non (upd H l (.lst (xs ++ [y])))
theorem zdq:MtM X "list.append" rAppend:=by
 intro pins s σ H x vs v us Q I rx rv h
 obtain ⟨l,xs,y,rfl,rfl,hH,hz,q⟩:=h
 cases rx
 obtain ⟨u,rfl,ru⟩:=rv.one
 obtain ⟨z,its,n,r,hl,e⟩:=I.lstM hH
 refine call_meets F.slot_list_append ⟨_,e,rfl⟩ F.entry_list_append (F.args_list_append_2 _ _) (PySem.list_append l its.toArray n u (by rw [List.size_toArray]; omega)) ⟨e,?_⟩
 refine ⟨.non,_,I.lset (its':=its ++ [u]) hH e (by simp) (r.append (.cons ru .nil)) ?_,rfl,q⟩
 rw [List.length_append,List.length_singleton]
 omega
noncomputable def rExtend:V->List V->Hp->VK->Prop:=fun x vs H Q=>∃ l b xs zs,x=.ref l /\ vs=[.ref b] /\ H l=some (.lst xs) /\ H b=some (.lst zs) /\ xs.length + zs.length<=sizeLine /\ Q .non (upd H l (.lst (xs ++ zs)))
theorem zeS:MtM X "list.extend" rExtend:=by
 intro pins s σ H x vs v us Q I rx rv h
 obtain ⟨l,b,xs,zs,rfl,rfl,hH,hB,hz,q⟩:=h
 cases rx
 obtain ⟨u,rfl,ru⟩:=rv.one
 cases ru
 obtain ⟨z,its,n,r,hl,e⟩:=I.lstM hH
 obtain ⟨z2,its2,n2,r2,hl2,e2⟩:=I.lstM hB
 have hsz:its.toArray.size + its2.toArray.size<=sizeLine:=by rw [List.size_toArray,List.size_toArray]; omega
 have hlong:¬ (!its.toArray.isEmpty && Builtin.List.listTooLong (its.toArray.size + its2.toArray.size))=true:=by
  rw [notLongL hsz,Bool.and_false]
  exact Bool.false_ne_true
 refine call_meets F.slot_list_extend ⟨_,e,rfl⟩ F.entry_list_extend (F.args_list_extend_2 _ _)
  (AutoSeq1.list_extend_list_list_0 l its.toArray n b its2.toArray n2 hlong (by rw [List.size_toArray]; omega) (by omega)) ⟨e,e2,?_⟩
 refine ⟨.non,_,I.lset (its':=its ++ its2) hH e (by simp) (r.append r2) ?_,rfl,q⟩
 rw [List.length_append]
 omega
noncomputable def rPop:V->List V->Hp->VK->Prop:=fun x vs H Q=>∃ l xs y,x=.ref l /\ vs=[] /\ H l=some (.lst xs) /\ xs[xs.length - 1]?=some y /\ Q y (upd H l (.lst xs.dropLast))
theorem zpR:MtM X "list.pop" rPop:=by
 intro pins s σ H x vs v us Q I rx rv h
 obtain ⟨l,xs,y,rfl,rfl,hH,hy,q⟩:=h
 cases rx
 have hus:=rv.zero
 subst hus
 obtain ⟨z,its,n,r,hl,e⟩:=I.lstM hH
 obtain ⟨u,hu,ru⟩:=r.get hy
 have hy':its.toArray[its.toArray.size - 1]?=some u:=by
  show its.toArray[its.length - 1]?=some u
  rw [<- Array.getElem?_toList,<- hl]
  exact hu
 refine call_meets F.slot_list_pop ⟨_,e,rfl⟩ F.entry_list_pop (F.args_list_pop_1 _) (MeetsSeq.list_pop_last l its.toArray n u hy' (by rw [List.size_toArray]; omega)) ⟨e,?_⟩
 refine ⟨y,_,I.lset (its':=its.dropLast) hH e ?_ r.dropLast ?_,ru,q⟩
 ·show its.toArray.eraseIdxIfInBounds (its.toArray.size - 1)=its.dropLast.toArray
  rw [List.size_toArray,List.eraseIdxIfInBounds_toArray,zji]
 ·rw [List.length_dropLast]
  omega
noncomputable def rRep:R2:=fun x y H Q=>∃ l k xs,x=.ref l /\ y=.int k /\ H l=some (.lst xs) /\ -(2 ^ 63)<=k /\ k < 2 ^ 63 /\ xs.length * k.toNat<=sizeLine /\
 ∀ p,H p=none->Q (.ref p) (upd H p (.lst (List.replicate k.toNat xs).flatten))
theorem zo3 {α:Type} (xs:List α) (k:Nat):(List.replicate k xs).flatten.length=k * xs.length:=by
 induction k with
 | zero=>simp
 | succ k ih=>rw [List.replicate_succ,List.flatten_cons,List.length_append,ih,Nat.succ_mul,Nat.add_comm]
theorem zqp:OpR X (binaryOp .Mult) rRep:=by
 intro pins s σ H x y v u Q I rx ry h
 obtain ⟨l,k,xs,rfl,rfl,hH,h1,h2,hz,q⟩:=h
 cases rx
 obtain ⟨t,rfl⟩:=ry
 obtain ⟨z,its,n,r,hl,e⟩:=I.lstM hH
 have hlen:its.toArray.size * k.toNat<=sizeLine:=by rw [List.size_toArray,<- hl]; exact hz
 have hcap:¬ its.toArray.size * k.toNat > (2 ^ 63 - 1) / 8:=by
  have:(sizeLine:Nat)<=(2 ^ 63 - 1) / 8:=by decide
  omega
 have hfit:¬ (!Builtin.List.listFitsIndex k)=true:=by
  rw [fitsIndex_both h1 h2]
  exact Bool.false_ne_true
 have hlong:¬ Builtin.List.listTooLong (its.toArray.size * k.toNat)=true:=by
  rw [notLongL hlen]
  exact Bool.false_ne_true
 have hnew:List.foldl (fun x1 x2=>x1 ++ x2) #[] (List.replicate (if its.toArray.isEmpty=true then 0 else k.toNat) its.toArray)=(List.replicate k.toNat its).flatten.toArray:=by
  have f0:∀ m:Nat,List.foldl (fun x1 x2=>x1 ++ x2) #[] (List.replicate m its.toArray)=(List.replicate m its).flatten.toArray:=fun m=>by
   have:=zg9 its m []
   rw [List.nil_append] at this
   exact this
  rw [f0]
  cases its with
  | nil=>simp
  | cons a r'=>rw [if_neg (by simp)]
 refine wpAny_binaryOp_repeat_ref (T:="list") (U:="int") (by decide) ⟨_,e,rfl⟩ (fun s'=>typeIs_int s' k t) noFill_list_mul F.fills_int_mul F.slot_int_rmul repeat_list F.slot_int_index.lookup
  (call_meets F.slot_int_rmul (typeIs_int s k t) F.entry_int_rmul (F.args_int_rmul_2 _ _) (int___rmul___int_list k t l its.toArray n)
   ⟨e,rfl,⟨_,e,rfl⟩,call_meets F.slot_list_mul ⟨_,e,rfl⟩ F.entry_list_mul (F.args_list_mul_2 _ _) (AutoListH.list___mul___list_int_3 l its.toArray n k t hfit hcap hlong) ⟨e,?_⟩⟩)
 rw [hnew]
 exact ⟨.ref _,_,I.lnew (t':=s.toks) (r.rep k.toNat) (by rw [zo3,Nat.mul_comm]; exact hz),rfl,q _ I.fresh⟩
end
section
variable {prog:Program} {w:World} {A:Around} {E:Value->Shared->Prop} {s:Shared}
end
section
variable {X:Cx}
end
end L2
namespace Att
open PySem PySem.W PySem.Calls PyProof.Rows
theorem zeA {P:Params} {h:Heap}:∀ (ns:List Int) (vs:List Value),WellAll P h vs (ns.map WData.int)->IntsAre vs ns:=by
 intro ns
 induction ns with
 | nil=>
   intro vs w
   rw [List.map_nil] at w
   cases w
   exact .nil
 | cons n ns ih=>
   intro vs w
   rw [List.map_cons] at w
   cases w with
   | cons a b=>
     cases a
     exact .cons _ _ (ih _ b)
theorem zkH {l:OpenLaw} {n:Nat} (hn:l.most=some n) {P:Params} {h:Heap} {args:List WData} {vals:List Value}
  (hpre:l.row.toRowW.claim.pre args=true) (hwl:WellAll P h vals args):
  ∃ a vs ns,vals=[Value.ref a] /\ args=[WData.list (ns.map WData.int)] /\ h.get? a=some { cls:=.type "list",data:=.seq vs.toArray } /\ IntsAre vs ns /\ ns.length<=n:=by
 have hsh:WShape.hasAll [] args [.list .int]=true:=(pre_splitW hpre).1
 have hc:l.pre.holds [] { args:=args }=true:=(pre_splitW hpre).2
 obtain ⟨d,r,rfl,h1,h2⟩:=hasAllW_cons hsh
 obtain rfl:=hasAllW_nil h2
 obtain ⟨xs,rfl,h3⟩:=hasW_list h1
 obtain ⟨ns,rfl⟩:=items_int h3
 have hlen:ns.length<=n:=by
  unfold OpenLaw.pre at hc
  have h4:(WTm.not (.lt (.lit (.int (n:Int))) (.len (.arg 0)))).holds [] { args:=[.list (ns.map .int)] }=true:=by
   have h4:=(holds_andW hc).1
   rw [hn] at h4
   exact h4
  have h5:=condW_of h4 (w_not (w_lt w_lit (w_len_list (w_arg rfl))))
  rw [List.length_map] at h5
  refine Nat.le_of_not_lt fun q=>?_
  have q':(n:Int) < ((ns.length:Nat):Int):=by omega
  first
   | (rw [decide_eq_true q'] at h5; exact absurd h5 (by decide))
   | (simp at h5; omega)
 cases hwl with
 | cons w1 w2=>
   cases w2
   cases w1 with
   | list ho hall=>exact ⟨_,_,ns,rfl,rfl,ho,zeA ns _ hall,hlen⟩
theorem zlK (l:OpenLaw) (args:List WData):l.row.toRowW.claim.post args (.bool true) args=true:=
 postW_of (r:=l.row.toRowW) (X:=(true == true))
  (show WShape.has [] (.bool true) .bool=true by first | rfl | decide | simp [WShape.has,WShape.arms,WShape.armsAll])
  (show (WTm.eq .res (.lit (.bool true))).value [] { args:=args,res:=some (.bool true),after:=args }=some (.bool (true == true)) from w_eq_bool (w_res rfl) w_lit) rfl
theorem zh6 {l:OpenLaw} {n:Nat} {q:Program} {loose:List Str} {XP:(Str->Option Value)->Heap->Prop} {YP:World->Heap->Prop} {d:DefRec}
  (hn:l.most=some n) (hdf:d.params.defaults=[])
  (call:∀ (w:World) (s₀ s₁:Shared) (mg mb:Str->Option Value) (fa:Addr) (o:Obj) (pm cd doc:Value) (a:Addr) (vs:List Value) (ns:List Int),
   Ground q loose [] XP w s₀ mg mb s₁.heap->YP w s₁.heap->
   s₁.heap.get? fa=some o->o.data=.func (docDef d.name d.params d.body d.scope pm cd doc)->s₁.heap.CodeRec cd d.name->mg d.name=some (.ref fa)->
   s₁.heap.get? a=some { cls:=.type "list",data:=.seq vs.toArray }->IntsAre vs ns->ns.length<=n->s₁.gens=#[]->
   codeAny (model l.prog w) callerA (.call (.ref fa) ⟨[.ref a],[]⟩) (fun r s'=>r=.ok (.ret (.bool true)) /\ OldK s₁.heap s'.heap /\ s'.os=s₁.os /\ AllBare s'.gens) s₁):
  WalkO q loose XP YP l.row.toRowW d [] (fun f vs=>PySem.call f vs):=by
 intro w s₀ s₁ mg mb G Y fa o pm cd doc dV kV ho hd hcd hD hmg hg args vals as hpre hlay hrd hwl hlo
 obtain rfl:dV=.none:=Dflts.none hD hdf
 obtain rfl:kV=.none:=Dflts.noKw hD
 obtain ⟨a,vs,ns,rfl,rfl,hobj,hints,hlen⟩:=zkH hn hpre hwl
 refine enter_call (codeAny_mono (call w s₀ s₁ mg mb fa o pm cd doc a vs ns G Y ho (fd_plain hd) hcd hmg hobj hints hlen hg) fun r s' hq=>?_)
 obtain ⟨rfl,h2,h3,h4⟩:=hq
 exact ⟨.inl ⟨.bool true,.bool true,[],rfl,fun _=>rfl,.bool true,zlK l _,fun _=>⟨List.Pairwise.nil,fun _ hm=>(nomatch hm)⟩⟩,h2,h3,h4⟩
section
variable {prog:Program} {w:World} {A:Around} {E:Value->Shared->Prop} {s:Shared} {K:Frag}
end
end Att
namespace L2
open PySem PySem.Spec PyProof.Rows
theorem zgo:∀ {vs:List Value} {ns:List Int},IntsAre vs ns->Vals (ns.map V.int) vs
 | _,_,.nil=>.nil
 | _,_,.cons n t h=>.cons ⟨t,rfl⟩ (zgo h)
noncomputable def LsD (K:PySem.W.Frag) (H:Hp) (a:Addr) (xs:List V):Prop:=
 Rd H a (.lst xs) \/ ∃ (its:List Value) (n:Nat),K.lookup a=some { cls:=.type "list",data:=.seq its.toArray n } /\ its.length<=sizeLine /\ Vals xs its
end L2
namespace L2
open PySem PySem.Spec PyProof.Rows
end L2
namespace L2
open PySem PySem.Spec PyProof.Rows
noncomputable abbrev CX0:CXT:=fun _ _ _ _ _ _=>False
noncomputable abbrev E0:XK:=fun _ _ _=>False
theorem pass0 {X:Cx}:Passes CX0 X E0:=fun _ _ _ _ _ _ _ h=>h.elim
structure Fun (K:PySem.W.Frag) (x qual:Str) (st:Stmt) (f:Addr) (fd:FuncData):Prop where
 ex:∃ (oc:Value) (od:Option Addr) (kV doc pm:Value) (an:Option Addr) (cdv ct:Value) (osl:Array (Option Value)),
  fd=PySem.W.fnOf x qual (defArgs st) (defBody st) (defScope st) .none kV doc pm an cdv ct /\ K.lookup f=some ⟨oc,od,.func fd,osl⟩ /\ PySem.W.codeIn K cdv qual=true
 kp:PySem.W.keepIn K (.ref f)=true
section
variable {P:Program} {w:World} {K:PySem.W.Frag} {mg:Str->Option Value} {base:Heap}
theorem Fun.ok {x qual:Str} {st:Stmt} {f:Addr} {fd:FuncData} {N ps:List Str} {k:Nat} {sp:Sp} (F:Fun K x qual st f fd) (S:FnScope N ps (defScope st)) (len:∀ vs H Q E,sp vs H Q E->vs.length=ps.length)
  (hbody:∀ (cdv:Value) (A:Around) (outer:List Env) (s:Shared) (H:Hp) (vs:List V) (Q:VK) (E:XK),Room k (A.deeper (envOfC qual (defScope st) s.heap.objs.size f cdv))->sp vs H Q E->
   ∃ t,PSs (cxOf CX0 P w K mg base N qual (defScope st) f cdv A outer s H E).nox (defBody st) t /\ t { nx:=fun _ H'=>Q .non H',rt:=Q } (start N vs) H):FnOk P w K mg base CX0 (k + 1) f fd ps sp:=by
 obtain ⟨oc,od,kV,doc,pm,an,cdv,ct,osl,rfl,lk,hcd⟩:=F.ex
 refine zpE lk hcd S len fun A outer s H vs Q E hr hsp=>?_
 obtain ⟨t,h,q⟩:=hbody cdv A outer s H vs Q E hr hsp
 exact ⟨t,h.nox,q⟩
theorem Fun.binds {x qual:Str} {st:Stmt} {f:Addr} {fd:FuncData} {ps:List Str} (F:Fun K x qual st f fd)
  (h:∀ (kV doc pm:Value) (an:Option Addr) (cdv ct:Value) (us:List Value),us.length=ps.length->bindArgs (PySem.W.fnOf x qual (defArgs st) (defBody st) (defScope st) .none kV doc pm an cdv ct) ⟨us,[]⟩=pure (ps.zip us)):Binds K fd ps []:=by
 obtain ⟨oc,od,kV,doc,pm,an,cdv,ct,osl,rfl,lk,hcd⟩:=F.ex
 exact .all (h kV doc pm an cdv ct)
theorem zT {x qual:Str} {st:Stmt} {f:Addr} {oc:Value} {od an:Option Addr} {osl:Array (Option Value)} {kV doc pm cdv ct:Value} (l:K.lookup f=some ⟨oc,od,.func (PySem.W.fnOf x qual (defArgs st) (defBody st) (defScope st) .none kV doc pm an cdv ct),osl⟩)
  (c:PySem.W.codeIn K cdv qual=true) (k:PySem.W.keepIn K (.ref f)=true):Fun K x qual st f (PySem.W.fnOf x qual (defArgs st) (defBody st) (defScope st) .none kV doc pm an cdv ct):=⟨⟨oc,od,kV,doc,pm,an,cdv,ct,osl,rfl,l,c⟩,k⟩
end
noncomputable def visB:Option NameKind->Bool
 | some .local=>true
 | some .cell=>true
 | some .free=>true
 | _=>false
theorem zqr {sc:Scope} {x:Str} (h:visB (sc.names.lookup x)=true):Vis sc x:=by
 unfold Vis
 cases e:sc.names.lookup x with
 | none=>rw [e] at h; cases h
 | some k=>
   rw [e] at h
   cases k <;> first | exact .inl rfl | exact .inr (.inl rfl) | exact .inr (.inr rfl) | cases h
section
variable {X:Cx}
theorem pv (i:Nat) {x:Str} {pos:Pos} (hN:X.N[i]?=some x:=by rfl) (hv:visB (X.env.scope.names.lookup x)=true:=by rfl) (hd:(x == ("__debug__":Str))=false:=by decide)
  (hcd:(x == ("__classdict__":Str))=false:=by decide):PE X (.Name x pos) (tVar i):=zpY hN (zqr hv) hd hcd
end
noncomputable def Same (H H':Hp):Prop:=∀ b o,H b=some o->H' b=some o
theorem Same.refl (H:Hp):Same H H:=fun _ _ h=>h
theorem Same.trans {H H1 H2:Hp} (a:Same H H1) (b:Same H1 H2):Same H H2:=fun c o h=>b c o (a c o h)
theorem Same.free {H H':Hp} (e:Same H H') {l:Addr} (h:H' l=Option.none):H l=Option.none:=by
 cases q:H l with
 | none=>rfl
 | some o=>
   rw [e l o q] at h
   cases h
end L2
namespace L2
open PySem PySem.Spec PyProof.Rows
section
variable {κ:Type} [DecidableEq κ]
noncomputable def valV (kvs:List (κ×V)) (k:κ):Option V:=(kvs.find? fun kv=>decide (kv.1=k)).map (·.2)
noncomputable def putK (kvs:List (κ×V)) (k:κ) (v:V):List (κ×V):=
 if (kvs.any fun kv=>decide (kv.1=k))=true then kvs.map (fun kv=>if kv.1=k then (kv.1,v) else kv) else kvs ++ [(k,v)]
theorem zec {p:κ×V} {r:List (κ×V)} {k:κ} (e:p.1=k):valV (p :: r) k=some p.2:=by simp [valV,List.find?_cons,e]
theorem zed {p:κ×V} {r:List (κ×V)} {k:κ} (e:¬ p.1=k):valV (p :: r) k=valV r k:=by simp [valV,List.find?_cons,e]
theorem zfA (k:κ):∀ kvs:List (κ×V),(kvs.any fun kv=>decide (kv.1=k))=(valV kvs k).isSome
 | []=>rfl
 | p :: r=>by
   rw [List.any_cons]
   by_cases e:p.1=k
   ·simp only [zec e,decide_eq_true e,Bool.true_or,Option.isSome_some]
   ·rw [zed e,decide_eq_false e,Bool.false_or]; exact zfA k r
theorem zeo (kvs:List (κ×V)) (k:κ) (v:V):(putK kvs k v).length<=kvs.length + 1:=by
 unfold putK
 split
 ·rw [List.length_map]; omega
 ·rw [List.length_append,List.length_cons,List.length_nil]; omega
theorem RelO.isSome_eq {o:Option V} {u:Option Value} (r:RelO o u):o.isSome=u.isSome:=by
 cases o with
 | none=>cases u with
   | none=>rfl
   | some _=>exact (show False from r).elim
 | some _=>cases u with
   | none=>exact (show False from r).elim
   | some _=>rfl
theorem RelO.getD {o:Option V} {u:Option Value} {d:V} {d':Value} (r:RelO o u) (rd:RelV d d'):RelV (o.getD d) (u.getD d'):=by
 cases o with
 | none=>cases u with
   | none=>exact rd
   | some _=>exact (show False from r).elim
 | some _=>cases u with
   | none=>exact (show False from r).elim
   | some _=>exact r
theorem KV.val {kvs:List (κ×V)} {vs:List (κ×Value)} (r:KV kvs vs) (k:κ):RelO (valV kvs k) (valueAt vs k):=by
 unfold KV at r
 induction r with
 | nil=>exact True.intro
 | @cons p q ps qs h t ih=>
   obtain ⟨h1,h2⟩:=h
   by_cases e:p.1=k
   ·have e':q.1=k:=h1.symm.trans e
    have b:valueAt (q :: qs) k=some q.2:=by simp [valueAt,List.find?_cons,e']
    rw [zec e,b]; exact h2
   ·have e':¬ q.1=k:=fun z=>e (h1.trans z)
    have b:valueAt (q :: qs) k=valueAt qs k:=by simp [valueAt,List.find?_cons,e']
    rw [zed e,b]; exact ih
theorem KV.any {kvs:List (κ×V)} {vs:List (κ×Value)} (r:KV kvs vs) (k:κ):(kvs.any fun kv=>decide (kv.1=k))=vs.any fun kv=>decide (kv.1=k):=by
 unfold KV at r
 induction r with
 | nil=>rfl
 | cons h t ih=>rw [List.any_cons,List.any_cons,ih,h.1]
theorem KV.repl {kvs:List (κ×V)} {vs:List (κ×Value)} (r:KV kvs vs) (k:κ) {y:V} {u:Value} (ry:RelV y u):
  KV (kvs.map fun kv=>if kv.1=k then (kv.1,y) else kv) (vs.map fun kv=>if kv.1=k then (kv.1,u) else kv):=by
 unfold KV at r ⊢
 induction r with
 | nil=>exact .nil
 | @cons p q ps qs h t ih=>
   rw [List.map_cons,List.map_cons]
   refine .cons ?_ ih
   obtain ⟨h1,h2⟩:=h
   by_cases e:p.1=k
   ·rw [if_pos e,if_pos (h1.symm.trans e)]; exact ⟨h1,ry⟩
   ·rw [if_neg e,if_neg (fun z=>e (h1.trans z))]; exact ⟨h1,h2⟩
theorem KV.put {kvs:List (κ×V)} {vs:List (κ×Value)} (r:KV kvs vs) (k:κ) {y:V} {u:Value} (ry:RelV y u):KV (putK kvs k y) (stored vs k u):=by
 unfold putK stored
 rw [r.any k]
 by_cases e:(vs.any fun kv=>decide (kv.1=k))=true
 ·rw [if_pos e,if_pos e]; exact r.repl k ry
 ·rw [if_neg e,if_neg e]; exact Paired.snoc r ⟨rfl,ry⟩
theorem KV.length {kvs:List (κ×V)} {vs:List (κ×Value)} (r:KV kvs vs):kvs.length=vs.length:=Paired.length r
end
theorem zm9 {P:Program} {w:World} {k:Key} {u:Value} (r:RelV (kV k) u):(mixKind P w).is k u=true:=by
 cases k with
 | inl i=>obtain ⟨t,e⟩:=(show ∃ t,u=Value.int i t from r); subst e; exact zhI P w i t
 | inr x=>obtain ⟨t,e⟩:=(show ∃ t,u=Value.str x t from r); subst e; exact zhZ P w x t
theorem zg4 {P:Program} {w:World}:∀ {ks:List Key} {us:List Value},Vals (ks.map kV) us->ItemsAre (mixKind P w) ks us
 | [],_,r=>by rw [List.map_nil] at r; cases r; exact .nil
 | k :: ks,_,r=>by
   rw [List.map_cons] at r
   cases r with
   | cons h t=>exact .cons (zm9 h) (zg4 t)
noncomputable abbrev KT (H:Hp):List (List Key×V)->List (List Key×Addr×Value)->Prop:=Paired fun p q=>p.1=q.1 /\ TupT H q.2.1 (p.1.map kV) /\ RelV p.2 q.2.2
theorem KT.val {H:Hp} {kvs:List (List Key×V)} {xs:List (List Key×Addr×Value)} (r:KT H kvs xs) (k:List Key):RelO (valV kvs k) ((atKey xs k).map (·.2)):=by
 induction r with
 | nil=>exact True.intro
 | @cons p q ps qs h t ih=>
   obtain ⟨h1,_,h2⟩:=h
   by_cases e:p.1=k
   ·have e':q.1=k:=h1.symm.trans e
    have b:atKey (q :: qs) k=some q.2:=by simp [atKey,List.find?_cons,e']
    rw [zec e,b]; exact h2
   ·have e':¬ q.1=k:=fun z=>e (h1.trans z)
    have b:atKey (q :: qs) k=atKey qs k:=by simp [atKey,List.find?_cons,e']
    rw [zed e,b]; exact ih
theorem KT.repl {H:Hp} {kvs:List (List Key×V)} {xs:List (List Key×Addr×Value)} (r:KT H kvs xs) (k:List Key) {y:V} {u:Value} (ry:RelV y u):
  KT H (kvs.map fun kv=>if kv.1=k then (kv.1,y) else kv) (xs.map (putAt k u)):=by
 induction r with
 | nil=>exact .nil
 | @cons p q ps qs h t ih=>
   rw [List.map_cons,List.map_cons]
   refine .cons ?_ ih
   obtain ⟨h1,h2,h3⟩:=h
   unfold putAt
   by_cases e:p.1=k
   ·rw [if_pos e,if_pos (h1.symm.trans e)]; exact ⟨h1,h2,ry⟩
   ·rw [if_neg e,if_neg (fun z=>e (h1.trans z))]; exact ⟨h1,h2,h3⟩
theorem KT.put {H:Hp} {kvs:List (List Key×V)} {xs:List (List Key×Addr×Value)} (r:KT H kvs xs) (k:List Key) {b:Addr} {y:V} {u:Value} (hb:TupT H b (k.map kV)) (ry:RelV y u):
  KT H (putK kvs k y) (storedH xs k b u):=by
 have e:(kvs.any fun kv=>decide (kv.1=k))=(atKey xs k).isSome:=by
  rw [zfA,(r.val k).isSome_eq,Option.isSome_map]
 unfold putK storedH
 rw [e]
 by_cases q:(atKey xs k).isSome=true
 ·rw [if_pos q,if_pos q]; exact r.repl k ry
 ·rw [if_neg q,if_neg q]; exact Paired.snoc r ⟨rfl,hb,ry⟩
theorem KT.keeps {H H':Hp} {kvs:List (List Key×V)} {xs:List (List Key×Addr×Value)} (r:KT H kvs xs) (ht:∀ b ys,TupT H b ys->TupT H' b ys):KT H' kvs xs:=
 Paired.mapP r fun _ _ z=>⟨z.1,ht _ _ z.2.1,z.2.2⟩
section
variable {P:Program} {w:World} {H:Hp} {h:Heap} {a:Addr}
theorem zpQ {u:HO} (ok:HOk P w H h) (e:Rd H a u):ObjOk P w H h a u:=e.ok ok
theorem zkO {kvs:List (Key×V)} (ok:HOk P w H h) (e:Rd H a (.dK kvs)):kvs.length<=sizeLine /\ (a == sysModules)=false /\ ∃ vs,KV kvs vs /\ h.DictOf (mixKind P w) a vs:=
 show ObjOk P w H h a (.dK kvs) from zpQ ok e
theorem zq1 {kvs:List (Key×V)} (ok:HOk P w H h) (e:H a=some (.dK kvs)):kvs.length<=sizeLine /\ (a == sysModules)=false /\ ∃ vs,KV kvs vs /\ h.DictOf (mixKind P w) a vs:=zkO ok (.inl e)
theorem zgs {ks:List Key} (ok:HOk P w H h) (e:TupT H a (ks.map kV)):(tupleKind (mixKind P w)).is h ks a:=by
 obtain ⟨_,its,r,o,h1,h2,n,h3⟩:=(show ObjOk P w H h a (.tup (ks.map kV)) from Rd.ok e ok)
 exact ⟨o,its.toArray,n,h1,h2,h3,by simpa using zg4 r⟩
theorem zkk {kvs:List (List Key×V)} (ok:HOk P w H h) (e:Rd H a (.dT kvs)):kvs.length<=sizeLine /\ (a == sysModules)=false /\
  ∃ xs,KT H kvs xs /\ h.DictOfH (tupleKind (mixKind P w)) a xs:=by
 obtain ⟨z,y,xs,r,o,es,ep,h1,h2,h3,h4,h5⟩:=(show ObjOk P w H h a (.dT kvs) from zpQ ok e)
 refine ⟨z,y,xs,r,o,es,ep,h1,h2,h3,h4,fun x hx=>?_,h5⟩
 have all:∀ {l:List (List Key×V)} {m:List (List Key×Addr×Value)},KT H l m->∀ x∈m,(tupleKind (mixKind P w)).is h x.1 x.2.1:=by
  intro l m q
  induction q with
  | nil=>intro x hx; exact nomatch hx
  | @cons p q ps qs hq t ih=>
    intro x hx
    rcases List.mem_cons.mp hx with e | hx
    ·subst e
     exact zgs ok (by rw [<- hq.1]; exact hq.2.1)
    ·exact ih x hx
 exact all r x hx
theorem zp6 {kvs:List (List Key×V)} (ok:HOk P w H h) (e:H a=some (.dT kvs)):kvs.length<=sizeLine /\ (a == sysModules)=false /\
  ∃ xs,KT H kvs xs /\ h.DictOfH (tupleKind (mixKind P w)) a xs:=zkk ok (.inl e)
end
noncomputable def DGet (H:Hp) (a:Addr) (y:V) (r:Option V):Prop:=
 (∃ kvs k,Rd H a (.dK kvs) /\ y=kV k /\ r=valV kvs k) \/ ∃ kvs k b,Rd H a (.dT kvs) /\ y=.ref b /\ TupT H b (k.map kV) /\ r=valV kvs k
noncomputable def DPut (H:Hp) (a:Addr) (y v:V) (H':Hp):Prop:=
 (∃ kvs k,H a=some (.dK kvs) /\ y=kV k /\ kvs.length < sizeLine /\ H'=upd H a (.dK (putK kvs k v))) \/
 ∃ kvs k b,H a=some (.dT kvs) /\ y=.ref b /\ TupT H b (k.map kV) /\ kvs.length < sizeLine /\ H'=upd H a (.dT (putK kvs k v))
theorem DGet.t {H:Hp} {a b:Addr} {kvs:List (List Key×V)} {k:List Key} (e:H a=some (.dT kvs)) (eb:TupT H b (k.map kV)):DGet H a (.ref b) (valV kvs k):=.inr ⟨kvs,k,b,.inl e,rfl,eb,rfl⟩
theorem DPut.t {H:Hp} {a b:Addr} {kvs:List (List Key×V)} {k:List Key} {v:V} (e:H a=some (.dT kvs)) (eb:TupT H b (k.map kV)) (hl:kvs.length < sizeLine):
  DPut H a (.ref b) v (upd H a (.dT (putK kvs k v))):=.inr ⟨kvs,k,b,e,rfl,eb,hl,rfl⟩
section
variable {X:Cx} {pins:List (Addr×Obj)} {σ:St} {H:Hp} {s:Shared} {a:Addr} {y v:V} {u r:Value} {o:Option V} {A:Around} {E:Value->Shared->Prop}
theorem Inv.big (I:Inv X pins σ H s):sysModules < s.heap.objs.size:=by
 have h:mainGlobals < s.heap.objs.size:=(I.mod.glob.keeps I.bk).lt
 exact Nat.lt_trans (by decide) h
theorem zk5 {Q:Value->Shared->Prop} (hu:A.units + 1 < cLine) (I:Inv X pins σ H s) (g:DGet H a y (some v)) (ry:RelV y u) (h:∀ w' s',Inv X pins σ H s'->RelV v w'->Q w' s'):
  wpAny (model X.prog X.w) A (getItem (.ref a) u) Q E s:=by
 rcases g with ⟨kvs,k,e,ey,l⟩ | ⟨kvs,k,b,e,ey,eb,l⟩
 ·subst ey
  obtain ⟨z,hd,vs,rel,dd⟩:=zkO I.hok e
  obtain ⟨w',hw,rw'⟩:=RelO.some_of (v:=v) (o:=valueAt vs k) (by rw [l]; exact rel.val k)
  exact wpAny_getItem_of (zm9 ry) dd.mapOf hw (h w' _ (I.tok _) rw')
 ·subst ey
  cases (show u=Value.ref b from ry)
  obtain ⟨z,hd,xs,rel,dd⟩:=zkk I.hok e
  obtain ⟨w',hw,rw'⟩:=RelO.some_of (v:=v) (o:=(atKey xs k).map (·.2)) (by rw [l]; exact rel.val k)
  obtain ⟨p,hp,hp2⟩:=Option.map_eq_some_iff.mp hw
  refine wpAny_getItem_heap (tupleKind_room_in1 hu) (zgs I.hok eb) dd hp ?_
  rw [hp2]
  exact h w' _ (I.tok _) rw'
theorem zhN {h':Heap} {t':Nat} {ob:HO} (I:Inv X pins σ H s) (mu:Mut (H a)) (hs:Heap.SameBut a s.heap h') (he:∃ q,h'.get? a=some q) (new:ObjOk X.prog X.w (upd H a ob) h' a ob):
  Inv X pins σ (upd H a ob) { s with heap:=h',toks:=t' }:=
 I.write (x:=a) (e:=a) mu (.inl rfl) (fun b q hb z=>(hs.2 b hb).trans z) he new
theorem zpw {P:Program} {w:World} {H':Hp} {h':Heap} {kvs:List (Key×V)} {vs:List (Key×Value)} (z:kvs.length<=sizeLine) (hd:(a == sysModules)=false) (rel:KV kvs vs) (dd:h'.DictOf (mixKind P w) a vs):
  ObjOk P w H' h' a (.dK kvs):=⟨z,hd,vs,rel,dd⟩
theorem zk1 {H':Hp} {Q:Unit->Shared->Prop} (hu:A.units + 1 < cLine) (I:Inv X pins σ H s) (g:DPut H a y v H') (ry:RelV y u) (rv:RelV v r) (h:∀ s',Inv X pins σ H' s'->Q () s'):
  wpAny (model X.prog X.w) A (setItem (.ref a) u r) Q E s:=by
 rcases g with ⟨kvs,k,e,ey,l,eH⟩ | ⟨kvs,k,b,e,ey,eb,l,eH⟩
 ·subst ey eH
  obtain ⟨z,hd,vs,rel,dd⟩:=zq1 I.hok e
  have hz:vs.length<=sizeLine:=by rw [<- rel.length]; exact z
  have hl:(putK kvs k v).length<=sizeLine:=by have:=zeo kvs k v; omega
  refine wpAny_setItem_pairs (hsz:=hz) (zm9 ry) dd fun h' dd' hs=>h _ ?_
  have he:∃ q,h'.get? a=some q:=let ⟨q,_,_,hq,_⟩:=dd'; ⟨q,hq⟩
  exact zhN I (by rw [e]; exact True.intro) hs he (zpw hl hd (rel.put k rv) dd')
 ·subst ey eH
  cases (show u=Value.ref b from ry)
  obtain ⟨z,hd,xs,rel,dd⟩:=zp6 I.hok e
  have hz:xs.length<=sizeLine:=by rw [<- Paired.length rel]; exact z
  have hl:(putK kvs k v).length<=sizeLine:=by have:=zeo kvs k v; omega
  refine wpAny_setItem_heap (hsz:=hz) (tupleKind_room_in1 hu) (zgs I.hok eb) dd fun h' dd' hs=>h _ ?_
  obtain ⟨q,es,ep,hq,h2,h3,h4,_,h5⟩:=dd'
  refine zhN I (by rw [e]; exact True.intro) hs ⟨q,hq⟩ ⟨hl,hd,_,(rel.put k eb rv).keeps fun c ys ec=>?_,q,es,ep,hq,h2,h3,h4,h5⟩
  exact ec.dT e
end
section
variable {X:Cx} {pins:List (Addr×Obj)} {σ:St} {H:Hp} {s:Shared} {a:Addr} {kvs:List (Key×V)} {k:Key} {u:Value} {A:Around} {E:Value->Shared->Prop}
end
noncomputable def NoSl (i:Expr):Prop:=∀ ov iv,subscripted i false ov iv=operate [ov,iv] (getItem ov iv)
theorem znZ {prog:Program} {w:World} {A:Around} {E:Value->Shared->Prop} {s:Shared} {env:Env} {value slice:Expr} {pos:Pos} {T id:String} {Q:Value->Shared->Prop}
  (hl:typeLookup (.type T) "__getitem__"=pure (some (.builtin id))) (hs:NoSl slice)
  (h:wpAny (model prog w) A (eval value env) (fun o s₁=>wpAny (model prog w) A (eval slice env) (fun i s₂=>s₂.TypeIs o T /\ wpAny (model prog w) A (getItem o i) Q E s₂) E s₁) E s):
  wpAny (model prog w) A (eval (.Subscript value slice pos) env) Q E s:=by
 refine Subscript_ (wpAny_mono h (fun o s₁ h₁=>wpAny_mono h₁ (fun i s₂ h₂=>?_) fun _ _ x=>x) fun _ _ x=>x)
 obtain ⟨hT,h₂⟩:=h₂
 unfold subscriptTail
 refine wpAny_bind ?_
 rw [getitemInPython_of_ne hT.not_modules]
 refine wpAny_bind (wpAny_specialOf hT hl ?_)
 have fin:wpAny (model prog w) A (subscripted slice false o i) (fun r s₃=>wpAny (model prog w) A (letTemporaryGo value o r >>= fun _=>pure r) Q E s₃) E s₂:=by
  rw [hs o i]
  exact wpAny_operating (wpAny_mono h₂ (fun r s₃ h₃=>wpAny_bind (wpAny_letTemporaryGo (wpAny_pure h₃))) fun _ _ x=>x)
 first
  | exact wpAny_pure (wpAny_bind fin)
  | exact wpAny_bind (wpAny_pure (wpAny_bind fin))
  | exact wpAny_bind fin
theorem zhF {X:Cx} {pins:List (Addr×Obj)} {σ:St} {H:Hp} {s:Shared} {a:Addr} {y:V} {o:Option V} (I:Inv X pins σ H s) (g:DGet H a y o):s.TypeIs (.ref a) "dict":=by
 rcases g with ⟨kvs,k,e,_,_⟩ | ⟨kvs,k,b,e,_,_,_⟩
 ·obtain ⟨_,_,vs,_,dd⟩:=zkO I.hok e
  exact dd.typeIs
 ·obtain ⟨_,_,xs,_,dd⟩:=zkk I.hok e
  exact dd.typeIs
noncomputable def tDGet (td ty:TE):TE:=fun σ H Q=>td σ H fun x H1=>ty σ H1 fun y H2=>∃ a v,x=.ref a /\ DGet H2 a y (some v) /\ Q v H2
noncomputable def sDPut (td ty tv:TE):TS:=fun D σ H=>tv σ H fun v H1=>td σ H1 fun x H2=>ty σ H2 fun y H3=>∃ a H4,x=.ref a /\ DPut H3 a y v H4 /\ D.nx σ H4
section
variable {X:Cx} {o i e value:Expr} {pos pos' tpos:Pos} {td ty tv:TE}
theorem zpe (hu:X.A.units + 1 < cLine) (ho:PE X o td) (hi:PE X i ty) (hs:NoSl i):PE X (.Subscript o i pos) (tDGet td ty):=by
 intro pins s σ H Q I h
 refine znZ PySem.F.slot_dict_getitem.lookup hs (thn (ho pins s σ H _ I h) fun u s1 ⟨x,H1,I1,rx,q1⟩=>thn (hi pins s1 σ H1 _ I1 q1) fun iv s2 ⟨y,H2,I2,ry,a,v,ex,g,q2⟩=>?_)
 subst ex
 obtain rfl:u=Value.ref a:=rx
 exact ⟨zhF I2 g,zk5 hu I2 g ry fun w' s3 I3 rw'=>⟨v,H2,I3,rw',q2⟩⟩
theorem znW (hu:X.A.units + 1 < cLine) (ho:PE X o td) (hi:PE X i ty) (hv:PE X value tv) (hs:swapsWith value (some (.Subscript o i pos')) pos.line X.env=pure false):
  PS X (.Assign [.Subscript o i pos'] value pos) (sDPut td ty tv):=by
 intro pins s σ H D I h
 refine wpAny_Assign_Subscript (thn (hv pins s σ H _ I h) fun r s1 ⟨v,H1,I1,rv,q1⟩=>thn (ho pins s1 σ H1 _ I1 q1) fun u s2 ⟨x,H2,I2,rx,q2⟩=>thn (hi pins s2 σ H2 _ I2 q2) fun iv s3 ⟨y,H3,I3,ry,a,H4,ex,g,q3⟩=>?_) hs
 subst ex
 obtain rfl:u=Value.ref a:=rx
 exact zk1 hu I3 g ry rv fun s4 I4=>⟨σ,H4,I4,q3⟩
end
theorem zmn {P:Program} {w:World} {H:Hp} (h:Heap) (hb:sysModules < h.objs.size):ObjOk P w H (h.push { cls:=.type "dict",data:=.dict #[] }) h.objs.size (.dT []):=
 ⟨Nat.zero_le _,beq_eq_false_iff_ne.mpr (Ne.symm (Nat.ne_of_lt hb)),[],.nil,_,#[],0,Heap.get?_push_size _ rfl,⟨rfl,rfl,rfl⟩,rfl,rfl,List.nodup_nil⟩
section
variable {X:Cx} {pos:Pos}
end
noncomputable def tPairs:List (TE×TE)->St->Hp->(List (V×V)->Hp->Prop)->Prop
 | [],_,H,Q=>Q [] H
 | (tk,tv) :: r,σ,H,Q=>tk σ H fun x H1=>tv σ H1 fun y H2=>tPairs r σ H2 fun ps H3=>Q ((x,y) :: ps) H3
noncomputable abbrev VV:List (V×V)->List (Value×Value)->Prop:=Paired fun p q=>RelV p.1 q.1 /\ RelV p.2 q.2
noncomputable def PPs (X:Cx) (pos:Pos) (keys:List (Option Expr)) (values:List Expr) (trs:List (TE×TE)):Prop:=
 ∀ (pins:List (Addr×Obj)) (s:Shared) (σ:St) (H:Hp) (Q:List (V×V)->Hp->Prop),Inv X pins σ H s->tPairs trs σ H Q->
   wpAny (model X.prog X.w) X.A (evalPairs (pairTrees keys values X.env pos)) (fun vs s'=>∃ ps H',Inv X pins σ H' s' /\ VV ps vs /\ Q ps H') X.xe s
theorem zoO {X:Cx} {pos:Pos}:PPs X pos [] [] []:=fun pins s σ H Q I h=>pairTrees_nil_walk ⟨[],H,I,.nil,h⟩
theorem zmk {X:Cx} {pos:Pos} {k v:Expr} {ks:List (Option Expr)} {vs:List Expr} {tk tv:TE} {trs:List (TE×TE)} (hk:PE X k tk) (hv:PE X v tv) (hr:PPs X pos ks vs trs):
  PPs X pos (some k :: ks) (v :: vs) ((tk,tv) :: trs):=fun pins s σ H Q I h=>
 pairTrees_cons_walk (thn (hk pins s σ H _ I h) fun u s1 ⟨x,H1,I1,rx,q1⟩=>thn (hv pins s1 σ H1 _ I1 q1) fun w2 s2 ⟨y,H2,I2,ry,q2⟩=>
  thn (hr pins s2 σ H2 _ I2 q2) fun ws s3 ⟨ps,H3,I3,rel,q3⟩=>⟨(x,y) :: ps,H3,I3,.cons ⟨rx,ry⟩ rel,q3⟩)
structure M2 (X:Cx) (o:Expr) (m:Str) (apos:Pos) (e f:Expr) (cpos:Pos):Prop where
 base:attributeBase o m X.env (eval o X.env)=eval o X.env
 few:((backTo cpos (starEach [e,f] X.env)).all (fun x=> !x.1) && (backToKw cpos (keywordEach [] X.env)).all (fun x=>x.1.isSome)
  && decide (([e,f]:List Expr).length + ([]:List Keyword).length + (if ([]:List Keyword).isEmpty then 0 else 1) < 30))=true
 line:(apos.endLine == cpos.line)=true
 trees:backTo cpos (starEach [e,f] X.env)=[(false,eval e X.env),(false,eval f X.env)]
noncomputable def IsDct (H:Hp) (a:Addr):Prop:=(∃ kvs,Rd H a (.dK kvs)) \/ ∃ kvs,Rd H a (.dT kvs)
theorem zpv {X:Cx} {pins:List (Addr×Obj)} {σ:St} {H:Hp} {s:Shared} {a:Addr} (I:Inv X pins σ H s) (d:IsDct H a):
  s.TypeIs (.ref a) "dict" /\ (∀ b,Value.ref a=.ref b->∃ ob,s.heap.get? b=some ob /\ ob.dict=none) /\ (a == sysModules)=false:=by
 rcases d with ⟨kvs,e⟩ | ⟨kvs,e⟩
 ·obtain ⟨_,hd,vs,_,dd⟩:=zkO I.hok e
  refine ⟨dd.typeIs,fun b q=>?_,hd⟩
  cases q
  obtain ⟨ob,_,_,h1,h2,_⟩:=dd
  exact ⟨ob,h1,h2.2.1⟩
 ·obtain ⟨_,hd,xs,_,dd⟩:=zkk I.hok e
  refine ⟨dd.typeIs,fun b q=>?_,hd⟩
  cases q
  obtain ⟨ob,_,_,h1,h2,_⟩:=dd
  exact ⟨ob,h1,h2.2.1⟩
section
variable {X:Cx} {pins:List (Addr×Obj)} {σ:St} {H:Hp} {s:Shared} {a:Addr} {y d:V} {u r:Value} {o:Option V} {A:Around} {E:Value->Shared->Prop}
theorem zqj {Q:Value->Shared->Prop} (hu:A.units + 1 < cLine) (I:Inv X pins σ H s) (g:DGet H a y o) (ry:RelV y u) (rd:RelV d r) (h:∀ w' s',Inv X pins σ H s'->RelV (o.getD d) w'->Q w' s'):
  wpAny (model X.prog X.w) A (call (.builtin "dict.get") [.ref a,u,r]) Q E s:=by
 rcases g with ⟨kvs,k,e,ey,l⟩ | ⟨kvs,k,b,e,ey,eb,l⟩
 ·subst ey
  obtain ⟨z,hd,vs,rel,dd⟩:=zkO I.hok e
  refine call_meetsIn PySem.F.slot_dict_get dd.typeIs PySem.F.entry_dict_get (PySem.F.args_dict_get_3 _ _ _) (meets_dict_get_default (mixKind X.prog X.w) a (zm9 ry) hd r) ⟨_,dd.mapOf,h _ _ (I.tok _) ?_⟩
  rw [l]
  exact (rel.val k).getD rd
 ·subst ey
  cases (show u=Value.ref b from ry)
  obtain ⟨z,hd,xs,rel,dd⟩:=zkk I.hok e
  refine call_meetsIn PySem.F.slot_dict_get dd.typeIs PySem.F.entry_dict_get (PySem.F.args_dict_get_3 _ _ _) (meetsH_dict_get_default (tupleKind (mixKind X.prog X.w)) a b hd r) ⟨tupleKind_room_in1 hu,k,xs,zgs I.hok eb,dd,h _ _ (I.tok _) ?_⟩
  rw [l]
  exact (rel.val k).getD rd
end
noncomputable def tDGet2 (td ty tx:TE):TE:=fun σ H Q=>td σ H fun x H1=>∃ a,x=.ref a /\ IsDct H1 a /\ ty σ H1 fun y H2=>tx σ H2 fun z H3=>∃ o,DGet H3 a y o /\ Q (o.getD z) H3
section
variable {X:Cx} {o e f:Expr} {apos cpos:Pos} {td ty tx:TE}
theorem znf (hu:X.A.units + 1 < cLine) (ho:PE X o td) (he:PE X e ty) (hf:PE X f tx) (m:M2 X o "get" apos e f cpos):PE X (.Call (.Attribute o "get" apos) [e,f] [] cpos) (tDGet2 td ty tx):=by
 intro pins s σ H Q I h
 refine wpAny_Call_method m.base m.few m.line PySem.F.plainAttrs_dict PySem.F.slot_dict_get PySem.F.type_dict_get (thn (ho pins s σ H _ I h) fun u s1 ⟨x,H1,I1,rx,a,ex,d,q1⟩=>?_)
 subst ex
 obtain rfl:u=Value.ref a:=rx
 obtain ⟨t1,t2,_⟩:=zpv I1 d
 refine ⟨t1,t2,?_⟩
 rw [m.trees]
 refine Calls.callWith_builtin rfl (Calls.evalArgs_plain (Calls.spliced_cons (thn (he pins s1 σ H1 _ I1 q1) fun iv s2 ⟨y,H2,I2,ry,q2⟩=>
  Calls.spliced_cons (thn (hf pins s2 σ H2 _ I2 q2) fun fv s3 ⟨z,H3,I3,rz,ov,g,q3⟩=>Calls.spliced_nil ?_))))
 exact zqj hu I3 g ry rz fun w' s4 I4 rw'=>⟨_,H3,I4,rw',q3⟩
end
end L2
set_option maxHeartbeats 4000000
namespace L2
open PySem PySem.Spec PyProof.Rows
section
variable {X:Cx}
theorem zL:OpR X (binaryOp .Mult) (rI IntMulOk fun i j=>.int (i * j)):=opI fun _ _ _ _ _ _ _ hc q=>mul_int q hc
noncomputable def CDivS (i j:Int):Prop:=j≠0 /\ Builtin.divisionGoesByPylong i j=false
theorem zR:OpR X (binaryOp .FloorDiv) (rI CDivS fun i j=>.int (i.fdiv j)):=opI fun _ _ _ _ _ _ _ hc q=>floordiv_int hc.1 q (.inl hc.2)
theorem zgG {i j:Int} (h:Builtin.Int.intBits j<=9000):Builtin.divisionGoesByPylong i j=false:=by
 refine PyProof.noPylong_of_log2 ?_
 unfold Builtin.Int.intBits at h
 by_cases hj:j=0
 ·subst hj; decide +kernel
 ·rw [if_neg (by simpa using hj)] at h
  omega
theorem zbv {i j:Int} (h1: -(2 ^ 64) < j) (h2:j < 2 ^ 64):IntMulOk i j:=.of_right (intBits_le_64 h1 h2)
theorem zmm {i j:Int} (h1: -(2 ^ 64) < i) (h2:i < 2 ^ 64):IntMulOk i j:=.of_left (intBits_le_64 h1 h2)
noncomputable def TyW (K:PySem.W.Frag) (H:Hp) (x:V) (t:String):Prop:=
 TyOf K H x (.type t) \/ (∃ a xs,x=.ref a /\ SqT K H a xs /\ t="tuple") \/ (∃ a xs,x=.ref a /\ SqL K H a xs /\ t="list")
noncomputable def rIsi (K:PySem.W.Frag):List V->Hp->VK->Prop:=fun xs H Q=>∃ x n t b,xs=[x,.ty n] /\ TyW K H x t /\ PySem.W.kitOne K (.type t) (.type n)=some b /\ Q (.bl b) H
theorem zmL:CallR X (.builtin "isinstance") (rIsi X.K):=by
 intro pins s σ H xs us Q I r h
 obtain ⟨x,n,t,b,rfl,ty,e,q⟩:=h
 obtain ⟨u1,u2,rfl,r1,r2⟩:∃ u1 u2,us=[u1,u2] /\ RelV x u1 /\ RelV (.ty n) u2:=by
  cases r with
  | cons p q=>cases q with
    | cons p' q'=>cases q'; exact ⟨_,_,rfl,p,p'⟩
 cases (show u2=Value.type n from r2)
 have fin:∀ tk,EP X pins σ Q (.bool b) { s with toks:=tk }:=fun tk=>⟨.bl b,H,I.tok _,rfl,q⟩
 rcases ty with ty | ⟨a,ys,rfl,hq,rfl⟩ | ⟨a,ys,rfl,hq,rfl⟩
 ·exact zkS I r1 ty e fin
 ·cases (show u1=Value.ref a from r1)
  obtain ⟨its,_,p,_⟩:=I.tuple hq
  obtain ⟨o,h1,h2,_⟩:=p
  exact PySem.W.kia_one PySem.W.kitx_tuple I.kIn ⟨o,h1,h2⟩ e (fun z=>nomatch z) fin
 ·cases (show u1=Value.ref a from r1)
  obtain ⟨its,_,p,_⟩:=I.list hq
  obtain ⟨o,n,h1,h2,_⟩:=p
  exact PySem.W.kia_one PySem.W.kitx_list I.kIn ⟨o,h1,h2⟩ e (fun z=>nomatch z) fin
theorem zmS {K:PySem.W.Frag} {t:String}:PySem.W.kitOne K (.type t) (.type t)=some true:=by
 unfold PySem.W.kitOne
 rw [if_pos (by simp)]
noncomputable def Dn (P:Program) (w:World) (K:PySem.W.Frag) (mg:Str->Option Value) (base:Heap) (k:Nat) (x:Str) (ps:List Str) (sp:Sp):Prop:=
 ∃ f fd,FnOk P w K mg base CX0 k f fd ps sp /\ mg x=some (.ref f) /\ PySem.W.keepIn K (.ref f)=true /\ Binds K fd ps []
theorem zp5 {k kk:Nat} {x:Str} {ps:List Str} {sp:Sp} {e:Expr} {es:List Expr} {t:TA} {p pos:Pos} (D:Dn X.prog X.w X.K X.mg X.base k x ps sp) (hr:Room kk X.A) (hk:k<=kk) (ha:PA X (e :: es) t) (hg:Gl X x:=by rfl)
  (hdb:(x == ("__debug__":Str))=false:=by decide) (he:starEach (e :: es) X.env=(false,eval e X.env) :: starEach es X.env:=by rfl) (hpl:(backTo pos (starEach es X.env)).any (·.1)=false:=by rfl):
  PE X (.Call (.Name x p) (e :: es) [] pos) (tCall sp [] E0 t):=by
 obtain ⟨f,fd,F,m,kp,b⟩:=D
 exact zj0 F (hr.mono hk) hg m kp b .nil pass0 ha hdb he hpl
structure Bs (mg:Str->Option Value):Prop where
 len:mg "len"=none
 range:mg "range"=none
 isinstance:mg "isinstance"=none
 max:mg "max"=none
 min:mg "min"=none
 int:mg "int"=none
 bool:mg "bool"=none
 tuple:mg "tuple"=none
 list:mg "list"=none
 abs:mg "abs"=none
 str:mg "str"=none
 sum:mg "sum"=none
 sorted:mg "sorted"=none
 reversed:mg "reversed"=none
 enumerate:mg "enumerate"=none
 set:mg "set"=none
 all:mg "all"=none
 zip:mg "zip"=none
 any:mg "any"=none
noncomputable def Df (K:PySem.W.Frag) (mg:Str->Option Value) (x:Str) (st:Stmt) (ps:List Str):Prop:=∃ f fd,Fun K x x st f fd /\ mg x=some (.ref f) /\ Binds K fd ps []
theorem Df.ok {P:Program} {w:World} {K:PySem.W.Frag} {mg:Str->Option Value} {base:Heap} {x:Str} {st:Stmt} {N ps:List Str} {k:Nat} {sp:Sp} (F:Df K mg x st ps) (S:FnScope N ps (defScope st)) (len:∀ vs H Q E,sp vs H Q E->vs.length=ps.length)
  (hbody:∀ (f:Addr) (cdv:Value) (A:Around) (outer:List Env) (s:Shared) (H:Hp) (vs:List V) (Q:VK) (E:XK),Room k (A.deeper (envOfC x (defScope st) s.heap.objs.size f cdv))->sp vs H Q E->
   ∃ t,PSs (cxOf CX0 P w K mg base N x (defScope st) f cdv A outer s H E).nox (defBody st) t /\ t { nx:=fun _ H'=>Q .non H',rt:=Q } (start N vs) H):Dn P w K mg base (k + 1) x ps sp:=by
 obtain ⟨f,fd,F,m,b⟩:=F
 exact ⟨f,fd,F.ok S len (hbody f),m,F.kp,b⟩
noncomputable def Cn (mg:Str->Option Value) (x:Str) (v:V):Prop:=∃ u,mg x=some u /\ RelV v u
theorem zeN {x:Str} {v:V} {pos:Pos} (c:Cn X.mg x v) (hg:Gl X x:=by rfl) (hd:(x == ("__debug__":Str))=false:=by decide):PE X (.Name x pos) (tC v):=by
 obtain ⟨u,m,r⟩:=c
 exact zph hg m r hd
end
theorem z9 {H:Hp} {p:Addr} (h:H p=none) (o:HO):Same H (upd H p o):=fun b u q=>by rw [zH (zU q h)]; exact q
theorem Same.tup {K:PySem.W.Frag} {H H':Hp} {a:Addr} {xs:List V} (e:Same H H') (h:SqT K H a xs):SqT K H' a xs:=by
 rcases h with (h | ⟨o,h⟩) | h
 ·exact .inl (.inl (e _ _ h))
 ·exact .inl (.inr ⟨o,e _ _ h⟩)
 ·exact .inr h
theorem small {n:Nat} (h:n<=100000):n<=sizeLine:=Nat.le_trans h (by decide)
theorem small' {n:Nat} (h:n<=100000):n < sizeLine:=Nat.lt_of_le_of_lt h (by decide)
end L2
namespace L2
open PySem PySem.Spec PyProof.Rows
section
variable {X:Cx}
noncomputable def rBits:V->List V->Hp->VK->Prop:=fun x vs H Q=>∃ i:Int,x=.int i /\ vs=[] /\ Q (.int (Builtin.Int.intBits i:Nat)) H
theorem zoC:MtR X "int.bit_length" rBits:=by
 intro pins s σ H x vs v us Q I rx rv h
 obtain ⟨i,rfl,rfl,q⟩:=h
 obtain ⟨t,rfl⟩:=rx
 cases rv
 exact call_int_bit_length ⟨.int _,H,I.tok _,⟨_,rfl⟩,q⟩
theorem zoL {o:Expr} {to:TE} {apos cpos:Pos} (ho:PE X o to) (hbase:attributeBase o "bit_length" X.env (eval o X.env)=eval o X.env:=by rfl) (hline:(apos.endLine == cpos.line)=true:=by rfl):
  PE X (.Call (.Attribute o "bit_length" apos) [] [] cpos) (tBM0 X.K "int" rBits to):=znU PySem.F.plainAttrs_int PySem.F.slot_int_bit_length PySem.F.type_int_bit_length zoC ho hbase hline
end
theorem Same.upd {H H':Hp} {l:Addr} (s:Same H H') (h:H l=none) (o:HO):Same H (upd H' l o):=fun b u q=>by rw [zH (zU q h)]; exact s b u q
end L2
namespace L2
open PySem PySem.Spec PyProof.Rows
theorem zgK:bootBuiltins "int"=some (.type "int"):=by decide +kernel
theorem zf2:bootBuiltins "tuple"=some (.type "tuple"):=by decide +kernel
theorem zfC:bootBuiltins "list"=some (.type "list"):=by decide +kernel
theorem zaa:bootBuiltins "len"=some (.builtin "len"):=by decide +kernel
theorem zgu:bootBuiltins "abs"=some (.builtin "abs"):=by decide +kernel
theorem znq:bootBuiltins "max"=some (.builtin "max"):=by decide +kernel
theorem zqm:bootBuiltins "min"=some (.builtin "min"):=by decide +kernel
theorem zcz:bootBuiltins "isinstance"=some (.builtin "isinstance"):=by decide +kernel
section
variable {X:Cx}
end
end L2
namespace L2
open PySem PySem.Spec PyProof.Rows
section
variable {X:Cx}
end
end L2
namespace L2
open PySem PySem.Spec PyProof.Rows
section
variable {X:Cx}
theorem zfg {scope:Scope} {env:Env} (h:∀ y∈scope.names,y.2=.free->∃ c,env.cells.lookup y.1=some c):
  ∃ cl:List (Str×Addr),closureFor scope env=pure cl /\ (∀ n c,cl.lookup n=some c->env.cells.lookup n=some c) /\ ∀ n,(n,NameKind.free)∈scope.names->∃ c,cl.lookup n=some c:=by
 have go:∀ (l:List (Str×NameKind)) (cs:List (Str×Addr)),(∀ y∈l,y.2=.free->∃ c,env.cells.lookup y.1=some c)->(∀ n c,cs.lookup n=some c->env.cells.lookup n=some c)->
   ∃ cl:List (Str×Addr),(forIn l cs fun x r=>(match x with | (name,kind)=>if (kind == NameKind.free)=true then (do let a <- cellOf env name; pure (ForInStep.yield ((name,a) :: r))) else pure (ForInStep.yield r):Sem (ForInStep (List (Str×Addr)))))=(pure cl:Sem _) /\
     (∀ n c,cl.lookup n=some c->env.cells.lookup n=some c) /\ (∀ n,(n,NameKind.free)∈l->∃ c,cl.lookup n=some c) /\ ∀ n c,cs.lookup n=some c->∃ c',cl.lookup n=some c':=by
  intro l
  induction l with
  | nil=>intro cs _ hc; exact ⟨cs,rfl,hc,fun n hn=>by simp at hn,fun n c e=>⟨c,e⟩⟩
  | cons y r ih=>
    intro cs hl hc
    obtain ⟨name,kind⟩:=y
    by_cases hk:kind=.free
    ·subst hk
     obtain ⟨c,e⟩:=hl (name,.free) List.mem_cons_self rfl
     have hc':∀ n d,((name,c) :: cs).lookup n=some d->env.cells.lookup n=some d:=by
      intro n d q
      rw [List.lookup_cons] at q
      cases hb:n == name with
      | true=>rw [hb] at q; cases q; rw [eq_of_beq hb]; exact e
      | false=>rw [hb] at q; exact hc n d q
     obtain ⟨cl,h1,h2,h3,h4⟩:=ih ((name,c) :: cs) (fun y hy=>hl y (List.mem_cons_of_mem _ hy)) hc'
     refine ⟨cl,?_,h2,fun n hn=>?_,fun n d q=>?_⟩
     ·rw [List.forIn_cons]
      have ec:cellOf env name=pure c:=by unfold cellOf; rw [e]
      simp only [beq_self_eq_true,if_true,ec,pure_bind]
      exact h1
     ·rcases List.mem_cons.mp hn with z | z
      ·cases z
       exact h4 name c (by rw [List.lookup_cons]; simp)
      ·exact h3 n z
     ·by_cases hb:n == name
      ·exact h4 n c (by rw [List.lookup_cons,hb])
      ·exact h4 n d (by rw [List.lookup_cons]; simp only [hb]; exact q)
    ·obtain ⟨cl,h1,h2,h3,h4⟩:=ih cs (fun y hy=>hl y (List.mem_cons_of_mem _ hy)) hc
     refine ⟨cl,?_,h2,fun n hn=>?_,h4⟩
     ·rw [List.forIn_cons]
      have eb:(kind == NameKind.free)=false:=by simpa using hk
      simp only [eb,Bool.false_eq_true,if_false,pure_bind]
      exact h1
     ·rcases List.mem_cons.mp hn with z | z
      ·cases z; exact absurd rfl hk
      ·exact h3 n z
 obtain ⟨cl,h1,h2,h3,_⟩:=go scope.names [] h (fun n c e=>by simp at e)
 refine ⟨cl,?_,h2,h3⟩
 simp only [closureFor]
 rw [h1]
 rfl
noncomputable def compCx (X:Cx) (scope:Scope) (N':List Str) (cl:List (Str×Addr)) (C:Addr) (s2:Shared) (H2:Hp) (fp:List Addr) (pins:List (Addr×Obj)):Cx:=
 { X with N:=N',s₀:=s2,H₀:=H2,env:=compEnvC scope cl C X.env,outer:=X.stack,stack:=X.stack,ex:=fp,fn:=fun _=>false,pn:=X.pn ++ pins,xe:=fun _ _=>False }
noncomputable def capt (ix:List Nat) (σ:St):St:=ix.map fun j=>(σ[j]?).join
section
variable {scope:Scope} {x:Str} {ix:List Nat} {N':List Str} {cl:List (Str×Addr)} {C:Addr} {s2 s3:Shared} {H2:Hp} {fp:List Addr} {pins:List (Addr×Obj)} {σ:St}
theorem zmK {j:Nat} {v:V} (h:(capt ix σ)[j]?=some (some v)):∃ i,ix[j]?=some i /\ σ[i]?=some (some v):=by
 unfold capt at h
 rw [List.getElem?_map] at h
 cases e:ix[j]? with
 | none=>rw [e] at h; cases h
 | some i=>
   rw [e] at h
   have h':(σ[i]?).join=some v:=Option.some.inj h
   refine ⟨i,rfl,?_⟩
   cases q:σ[i]? with
   | none=>rw [q] at h'; cases h'
   | some w=>rw [q] at h'; rw [show w=some v from h']
noncomputable abbrev lob (its:List Value) (n:Nat):Obj:={ cls:=.type "list",data:=.seq its.toArray n }
theorem Inv.track {X:Cx} {pins:List (Addr×Obj)} {σ:St} {H:Hp} {s:Shared} {D:Addr} {ys:List V} {its:List Value} {n:Nat} (I:Inv X pins σ H s) (hD:H D=none) (hs:X.s₀.heap.objs.size<=D) (hl:D≠X.env.locals) (hc:∀ x c,X.env.cells.lookup x=some c->c≠D)
  (hp:∀ p∈X.pn ++ pins,p.1≠D) (e:s.heap.get? D=some (lob its n)) (r:Vals ys its) (hz:ys.length<=sizeLine):Inv X pins σ (upd H D (.lst ys)) s:=by
 have h:=I.step (H':=upd H D (.lst ys)) (h':=s.heap) (g':=s.gens) (t':=s.toks) (d':=s.drawn) (ch:=[D]) (fun b hb=>by
   have e:b=D:=by simpa using hb
   subst e
   exact ⟨.inr hs,hl,hc,hp⟩)
  (fun b o _ _ _ q _=>q) (fun b o _ _ _ q _=>⟨o.slots,q⟩) (fun b o hb _ q=>by rw [zH (by simpa using hb)]; exact q) (fun b o _ q=>⟨o,q⟩)
  (fun b xs q=>by rw [zH (zU q hD)]; exact q) (fun b o u q=>by rw [zH (zU q hD)]; exact q) (fun b ps q=>⟨#[],by rw [zH (zU q hD),Array.append_empty]; exact q⟩) (fun m hm=>hm) (fun b u q=>?_) I.bare
 ·exact h
 ·by_cases hb:b=D
  ·subst hb
   rw [z8] at q; cases q
   exact ⟨hz,its,n,r,e⟩
  ·rw [zH hb] at q
   exact (I.hok b u q).stay (fun _ _ _ z=>z) (fun c z=>by rw [zH (zU z hD)]; exact z) fun c xs z=>z.new hD
theorem zkK (I0:Inv X pins σ H2 s2) (hC:s2.heap.objs.size<=C) {D:Addr} (hD:s2.heap.objs.size<=D) (hf:∀ b∈fp,FpOk X pins H2 b) {σ':St} {H:Hp} {s1:Shared} {ys:List V} {its:List Value} {n:Nat} {more:List (Addr×Obj)}
  (I:Inv (compCx X scope N' cl C s2 H2 fp pins) ((D,lob its n) :: more) σ' H s1) (r:Vals ys its) (hz:ys.length<=sizeLine) {h':Heap} (hs:Heap.SameBut C s1.heap h') (hDC:D≠C):
  Inv X pins σ (upd H D (.lst ys)) { s1 with heap:=h' }:=by
 have nC:∀ b o,s2.heap.get? b=some o->b≠C:=fun b o e=>Nat.ne_of_lt (Nat.lt_of_lt_of_le (Heap.lt_size e) hC)
 have B:Un (frs X.stack) fp H2 H s2.heap s1.heap:=I.base
 have fC:H C=none:=I.free
 have pD:=I.pin (D,lob its n) (List.mem_append_right _ List.mem_cons_self)
 have u:Un (frs X.stack) fp H2 H s2.heap h':=⟨fun b o e n hb hx=>(hs.2 b (nC b o e)).trans (B.keep b o e n hb hx),fun b o e n hb hx=>by
   obtain ⟨sl,q⟩:=B.slot b o e n hb hx
   exact ⟨sl,(hs.2 b (nC b o e)).trans q⟩,B.free,fun b o e hx=>by
   obtain ⟨o',q⟩:=B.there b o e hx
   exact ⟨o',(hs.2 b (nC b o e)).trans q⟩,B.tups,B.frzs,B.tbls⟩
 have hok:HOk X.prog X.w H h':=fun b o e=>(I.hok b o e).stay (fun c v hc q=>(hs.2 c (by
   rintro rfl
   rcases hc with z | z
   ·subst z; rw [fC] at e; cases e
   ·rw [fC] at z; cases z)).trans q) (fun _ q=>q) fun _ _ q=>q
 have I1:Inv X pins σ H { s1 with heap:=h' }:=I0.call' (s':={ s1 with heap:=h' }) (ch:=fp) I.os u hok I.bare fun b hb=>⟨(hf b hb).2.2.2.1,(hf b hb).2.1,(hf b hb).2.2.2.2.1,(hf b hb).2.2.2.2.2⟩
 refine I1.track (its:=its) (n:=n) pD.2.1 (Nat.le_trans I0.sz hD) (Nat.ne_of_gt (Nat.lt_of_lt_of_le I0.lt hD)) (fun a c e z=>?_) (fun p hp z=>?_) ((hs.2 D hDC).trans pD.1) r hz
 ·obtain ⟨v,q⟩:=I0.cell a c e
  exact absurd (Nat.lt_of_lt_of_le q.lt (by rw [z]; exact hD)) (Nat.lt_irrefl _)
 ·exact absurd (Nat.lt_of_lt_of_le (Heap.lt_size (I0.pin p hp).1) (by rw [z]; exact hD)) (Nat.lt_irrefl _)
end
section
variable {scope:Scope} {x:Str} {ix:List Nat} {N':List Str} {elt iter:Expr} {px pos:Pos} {wi:TI} {te:TE}
end
noncomputable def relN (sc scope:Scope):List (Str×NameKind):=scope.names.map fun (n,k)=>if (k == .free && sc.kind == .function && sc.names.lookup n == some .cell) then (n,.cell) else (n,k)
theorem zdS {n:Str} {k:NameKind}:∀ {l:List (Str×NameKind)},l.lookup n=some k->(n,k)∈l
 | [],h=>by simp at h
 | (a,b) :: r,h=>by
   rw [List.lookup_cons] at h
   cases e:n == a with
   | true=>rw [e] at h; cases h; rw [eq_of_beq e]; exact List.mem_cons_self
   | false=>rw [e] at h; exact List.mem_cons_of_mem _ (zdS h)
section
variable {scope:Scope} {x:Str} {elt iter:Expr} {px pos:Pos} {wi:TI} {te:TE}
end
end
end L2
namespace L2
open PySem PySem.Spec PyProof.Rows
section
variable {X:Cx} {pins:List (Addr×Obj)} {σ:St} {H:Hp} {s:Shared}
end
section
variable {X:Cx}
end
noncomputable abbrev Fr2:=Int×Int
noncomputable def dF (q:Fr2):PyData:=.tuple [.int q.1,.int q.2]
noncomputable def dP (l:List Fr2):PyData:=.list (l.map dF)
theorem zpP (a b:Fr2):PyData.eqv (dF a) (dF b)=decide (a=b):=by
 obtain ⟨a1,a2⟩:=a
 obtain ⟨b1,b2⟩:=b
 simp only [dF,PyData.eqv,PyData.eqvAll,Bool.and_true,Prod.mk.injEq]
 rw [Bool.eq_iff_iff]; simp
theorem zpp (q:Fr2):(dF q).canLay0=true /\ (dF q).depth<=3:=⟨by simp [dF,PyData.canLay0,PyData.canLayAll0],by simp [dF,PyData.depth,PyData.depthAll]⟩
theorem zp7 (q:Fr2):SeqAt.shaped (dF q)=true:=by obtain ⟨a,b⟩:=zpp q; unfold SeqAt.shaped; rw [a]; simp; omega
theorem zmh {α:Type} {xs:List α} {v:α} (h:xs[xs.length - 1]?=some v):atI xs (-1)=some v:=by
 have hl:0 < xs.length:=by
  have:=(List.getElem?_eq_some_iff.mp h).1
  omega
 have e:ixN xs.length (-1)=some (xs.length - 1):=by
  unfold ixN
  rw [if_neg (by decide),if_pos (by omega)]
  congr 1
  omega
 unfold atI
 rw [e]
 exact h
end L2
namespace L2
open PySem PySem.Spec PyProof.Rows
noncomputable abbrev D:=PyData
noncomputable abbrev DS:=List (Option D)
noncomputable def cstTab:List (Addr×List V):=[(169,[.int (0),.int (1)])]
theorem Same.tupT {H H':Hp} {a:Addr} {xs:List V} (s:Same H H') (h:TupT H a xs):TupT H' a xs:=by
 rcases h with h | ⟨ob,h⟩
 ·exact .inl (s _ _ h)
 ·exact .inr ⟨ob,s _ _ h⟩
noncomputable def wo (H:Hp) (A:List Addr):Hp:=fun a=>if a∈A then none else H a
section
variable {K:PySem.W.Frag} {H H':Hp} {A A':List Addr} {a l p r:Addr} {o:HO}
theorem zam (h:a∉A):wo H A a=H a:=by unfold wo; rw [if_neg h]
theorem zes (h:a∈A):wo H A a=none:=by unfold wo; rw [if_pos h]
theorem zdc (h:wo H A a=some o):a∉A /\ H a=some o:=by
 unfold wo at h
 split at h
 ·cases h
 ·exact ⟨by assumption,h⟩
theorem zan:Same (wo H A) H:=fun _ _ h=>(zdc h).2
theorem zav (s:Same H H'):Same (wo H A) (wo H' A):=fun b u h=>by
 obtain ⟨h1,h2⟩:=zdc h
 rw [zam h1]; exact s b u h2
theorem zd1 (h:∀ a∈A',a∈A):Same (wo H A) (wo H A'):=fun b u q=>by
 obtain ⟨h1,h2⟩:=zdc q
 rw [zam fun z=>h1 (h b z)]; exact h2
theorem znv:wo H []=H:=by funext a; exact zam (by simp)
theorem znN (h:p∉A):wo (upd H p o) A=upd (wo H A) p o:=by
 funext a
 by_cases e:a=p
 ·subst e; rw [zam h,z8,z8]
 ·rw [zH e]
  by_cases z:a∈A
  ·rw [zes z,zes z]
  ·rw [zam z,zam z,zH e]
theorem znu (h:l∈A):wo (upd H l o) A=wo H A:=by
 funext a
 by_cases z:a∈A
 ·rw [zes z,zes z]
 ·rw [zam z,zam z,zH]
  intro e; subst e; exact z h
theorem zhM (h:H r=none):wo (upd H r o) (r :: A)=wo H A:=by
 funext a
 by_cases e:a=r
 ·subst e
  rw [zes (by simp)]
  by_cases z:a∈A
  ·rw [zes z]
  ·rw [zam z,h]
 ·by_cases z:a∈A
  ·rw [zes (by simp [z]),zes z]
  ·rw [zam (by simp [e,z]),zam z,zH e]
theorem zjS (s:Same H H') (h:H r=none):Same (wo H A) (wo H' (r :: A)):=fun b u q=>by
 obtain ⟨h1,h2⟩:=zdc q
 rw [zam (by simp only [List.mem_cons,not_or]; exact ⟨zU h2 h,h1⟩)]
 exact s b u h2
noncomputable def OwnO:HO->Prop
 | .lst _=>True
 | .dT _=>True
 | _=>False
noncomputable def Ls (A:List Addr) (H:Hp):Prop:=(∀ a∈A,∃ o,H a=some o /\ OwnO o) /\ ∀ p xs,(p,xs)∈cstTab->TupT H p xs
theorem Ls.same (h:Ls A H) (s:Same H H'):Ls A H':=⟨fun a ha=>let ⟨o,e,q⟩:=h.1 a ha; ⟨o,s _ _ e,q⟩,fun p xs m=>s.tupT (h.2 p xs m)⟩
theorem TupT.apart {xs:List V} (t:TupT H p xs) (e:H l=some o) (w:OwnO o):p≠l:=fun z=>by
 subst z
 rcases t with t | ⟨ob,t⟩ <;> rw [e] at t <;> cases t <;> exact w
theorem TupT.wo {xs:List V} (t:TupT H p xs) (n:p∉A):TupT (L2.wo H A) p xs:=by
 rcases t with t | ⟨ob,t⟩
 ·exact .inl (by rw [zam n]; exact t)
 ·exact .inr ⟨ob,by rw [zam n]; exact t⟩
theorem Ls.free (h:Ls A H) (n:H p=none):p∉A:=fun z=>by
 obtain ⟨ys,e,_⟩:=h.1 p z
 rw [n] at e; cases e
end
noncomputable def NoCtx (_:Heap) (_:Addr):Prop:=True
noncomputable def ExO (a C:Addr):HO:=.ext fun h=>(∃ o,h.get? a=some o /\ o.cls=.ref C) /\ NoCtx h a
noncomputable def keyD:Key->D:=Sum.elim .int .str
mutual
inductive HD (K:PySem.W.Frag) (H:Hp):V->D->Prop
 | non:HD K H .non .none
 | bl (b:Bool):HD K H (.bl b) (.bool b)
 | int (i:Int):HD K H (.int i) (.int i)
 | str (x:Str):HD K H (.str x) (.str x)
 | lst {a:Addr} {xs:List V} {ds:List D}:LsD K H a xs->HDs K H xs ds->HD K H (.ref a) (.list ds)
 | tup {a:Addr} {xs:List V} {ds:List D}:TupT H a xs->HDs K H xs ds->HD K H (.ref a) (.tuple ds)
 | dct {a:Addr} {kvs:List (List Key×V)} {kds:List (D×D)}:H a=some (.dT kvs)->kds.map (·.1)=kvs.map (fun p=>PyData.tuple (p.1.map keyD))->HDs K H (kvs.map (·.2)) (kds.map (·.2))->HD K H (.ref a) (.dict kds)
 | exc {a C:Addr} {c:Str}:PySem.W.nsIn K mainGlobals c=some (some (.ref C))->H a=some (ExO a C)->HD K H (.ref a) (.dict [(.list [],.tuple [.int (a:Nat),.str c])])
inductive HDs (K:PySem.W.Frag) (H:Hp):List V->List D->Prop
 | nil:HDs K H [] []
 | cons {x:V} {xs:List V} {d:D} {ds:List D}:HD K H x d->HDs K H xs ds->HDs K H (x :: xs) (d :: ds)
end
theorem Same.rd {H H':Hp} {a:Addr} {u:HO} (s:Same H H') (h:Rd H a u):Rd H' a u:=by
 rcases h with h | ⟨o,h⟩
 ·exact .inl (s _ _ h)
 ·exact .inr ⟨o,s _ _ h⟩
theorem LsD.of {K:PySem.W.Frag} {H:Hp} {a:Addr} {xs:List V} (h:H a=some (.lst xs)):LsD K H a xs:=.inl (.inl h)
theorem LsD.sq {K:PySem.W.Frag} {H:Hp} {a:Addr} {xs:List V} (h:LsD K H a xs):SqL K H a xs:=by
 rcases h with h | ⟨its,n,h1,h2,h3⟩
 ·exact .inl h
 ·exact .inr ⟨_,its.toArray,n,h1,rfl,rfl,rfl,by rw [List.size_toArray]; exact h2,by simpa using h3⟩
theorem LsD.same {K:PySem.W.Frag} {H H':Hp} {a:Addr} {xs:List V} (s:Same H H') (h:LsD K H a xs):LsD K H' a xs:=by
 rcases h with h | h
 ·exact .inl (s.rd h)
 ·exact .inr h
theorem Inv.lsd {X:Cx} {pins:List (Addr×Obj)} {σ:St} {H:Hp} {s:Shared} {a:Addr} {xs:List V} (I:Inv X pins σ H s) (h:LsD X.K H a xs):xs.length<=sizeLine /\ ∃ (its:List Value) (n:Nat),Vals xs its /\ s.heap.get? a=some { cls:=.type "list",data:=.seq its.toArray n }:=by
 rcases h with h | ⟨its,n,h1,h2,h3⟩
 ·exact h.ok I.hok
 ·exact ⟨by rw [h3.length]; exact h2,its,n,h3,I.kIn a _ h1⟩
theorem HD.same {K:PySem.W.Frag} {H H':Hp} (e:Same H H') {x:V} {d:D} (h:HD K H x d):HD K H' x d:=
 HD.rec (motive_1:=fun x d _=>HD K H' x d) (motive_2:=fun x d _=>HDs K H' x d) .non .bl .int .str (fun hq _ i=>.lst (hq.same e) i) (fun hq _ i=>.tup (e.tupT hq) i) (fun hq k _ i=>.dct (e _ _ hq) k i) (fun k h=>.exc k (e _ _ h)) .nil (fun _ _ i j=>.cons i j) h
theorem HDs.same {K:PySem.W.Frag} {H H':Hp} (e:Same H H') {x:List V} {d:List D} (h:HDs K H x d):HDs K H' x d:=
 HDs.rec (motive_1:=fun x d _=>HD K H' x d) (motive_2:=fun x d _=>HDs K H' x d) .non .bl .int .str (fun hq _ i=>.lst (hq.same e) i) (fun hq _ i=>.tup (e.tupT hq) i) (fun hq k _ i=>.dct (e _ _ hq) k i) (fun k h=>.exc k (e _ _ h)) .nil (fun _ _ i j=>.cons i j) h
section
variable {X:Cx} {pins:List (Addr×Obj)} {σ:St} {H:Hp} {s:Shared}
theorem zau {d:D} (h:SeqAt.shaped d=true):d.canLay0=true:=by
 unfold SeqAt.shaped at h
 rw [Bool.and_eq_true] at h
 exact h.1
theorem zqz (I:Inv X pins σ H s) {a:Addr} {xs:List V} {ds:List D} {u:Value} (hq:LsD X.K H a xs) (r:RelV (.ref a) u) (h:∀ {us},Vals xs us->∃ as,ReadsAll s.heap us ds as):∃ as,Reads s.heap u (.list ds) as:=by
 cases (show u=Value.ref a from r)
 obtain ⟨its,rv,⟨o,n,h1,h2,_,h3⟩,_⟩:=I.list hq.sq
 obtain ⟨as,q⟩:=h rv
 exact ⟨_,.list h1 h2 h3 (by simpa using q)⟩
theorem zp3 (I:Inv X pins σ H s) {a:Addr} {xs:List V} {ds:List D} {u:Value} (hq:TupT H a xs) (r:RelV (.ref a) u) (h:∀ {us},Vals xs us->∃ as,ReadsAll s.heap us ds as):∃ as,Reads s.heap u (.tuple ds) as:=by
 cases (show u=Value.ref a from r)
 obtain ⟨its,rv,⟨o,h1,h2,n,h3⟩,_⟩:=I.tuple (.inl hq)
 obtain ⟨as,q⟩:=h rv
 exact ⟨_,.tuple h1 h2 h3 (by simpa using q)⟩
theorem HD.reads (I:Inv X pins σ H s) {x:V} {d:D} (h:HD X.K H x d):∀ {u:Value},RelV x u->PyData.canLay0 d=true->∃ as,Reads s.heap u d as:=
 HD.rec (motive_1:=fun x d _=>∀ {u},RelV x u->d.canLay0=true->∃ as,Reads s.heap u d as) (motive_2:=fun x d _=>∀ {u},Vals x u->PyData.canLayAll0 d=true->∃ as,ReadsAll s.heap u d as)
  (fun {u} r _=>by cases (show u=Value.none from r); exact ⟨_,.none⟩) (fun b {u} r _=>by cases (show u=Value.bool b from r); exact ⟨_,.bool b⟩) (fun i {u} r _=>by obtain ⟨t,rfl⟩:=r; exact ⟨_,.int i t⟩) (fun i {u} r _=>by obtain ⟨t,rfl⟩:=r; exact ⟨_,.str i t⟩)
  (fun {_ _ _} hq _ i {_} r c=>zqz I hq r fun rv=>i rv (by rw [PyData.canLay0] at c; exact c)) (fun {_ _ _} hq _ i {_} r c=>zp3 I hq r fun rv=>i rv (by rw [PyData.canLay0] at c; exact c)) (fun {_ _ _} _ _ _ _ {_} _ c=>by rw [PyData.canLay0] at c; cases c) (fun {_ _ _} _ _ {_} _ c=>by rw [PyData.canLay0] at c; cases c)
  (fun {_} r _=>by cases r; exact ⟨_,.nil⟩) (fun {_ _ _ _} _ _ i j {_} r c=>by
   rw [PyData.canLayAll0,Bool.and_eq_true] at c
   cases r with
   | cons r rs=>
     obtain ⟨as,q⟩:=i r c.1
     obtain ⟨bs,qs⟩:=j rs c.2
     exact ⟨_,.cons q qs⟩) h
end
theorem HDs.len {K:PySem.W.Frag} {H:Hp}:∀ {xs:List V} {ds:List D},HDs K H xs ds->xs.length=ds.length
 | _,_,.nil=>rfl
 | _,_,.cons _ t=>by rw [List.length_cons,List.length_cons,HDs.len t]
theorem HDs.get {K:PySem.W.Frag} {H:Hp}:∀ {xs:List V} {ds:List D} {i:Nat} {d:D},HDs K H xs ds->ds[i]?=some d->∃ x,xs[i]?=some x /\ HD K H x d
 | _,_,_,_,.nil,e=>by simp at e
 | _,_,0,_,.cons r _,e=>by simp at e; subst e; exact ⟨_,rfl,r⟩
 | _,_,i + 1,y,.cons _ t,e=>by
   obtain ⟨u,h1,h2⟩:=HDs.get (i:=i) (d:=y) t (by simpa using e)
   exact ⟨u,by simpa using h1,h2⟩
theorem HDs.app {K:PySem.W.Frag} {H:Hp}:∀ {xs xs':List V} {ds ds':List D},HDs K H xs ds->HDs K H xs' ds'->HDs K H (xs ++ xs') (ds ++ ds')
 | _,_,_,_,.nil,s=>s
 | _,_,_,_,.cons r t,s=>.cons r (HDs.app t s)
theorem HDs.takeD {K:PySem.W.Frag} {H:Hp}:∀ {xs:List V} {ds:List D} (n:Nat),HDs K H xs ds->HDs K H (xs.take n) (ds.take n)
 | _,_,0,_=>.nil
 | _,_,_ + 1,.nil=>.nil
 | _,_,n + 1,.cons r t=>.cons r (HDs.takeD n t)
theorem HDs.dropD {K:PySem.W.Frag} {H:Hp}:∀ {xs:List V} {ds:List D} (n:Nat),HDs K H xs ds->HDs K H (xs.drop n) (ds.drop n)
 | _,_,0,r=>r
 | _,_,_ + 1,.nil=>.nil
 | _,_,n + 1,.cons _ t=>HDs.dropD n t
theorem HDs.setD {K:PySem.W.Frag} {H:Hp} {x:V} {d:D} (r:HD K H x d):∀ {xs:List V} {ds:List D} (i:Nat),HDs K H xs ds->HDs K H (xs.set i x) (ds.set i d)
 | _,_,_,.nil=>.nil
 | _,_,0,.cons _ t=>.cons r t
 | _,_,i + 1,.cons q t=>.cons q (HDs.setD r i t)
theorem HDs.rep {K:PySem.W.Frag} {H:Hp} {xs:List V} {ds:List D} (h:HDs K H xs ds):∀ k:Nat,HDs K H (List.replicate k xs).flatten (List.replicate k ds).flatten
 | 0=>.nil
 | k + 1=>by rw [List.replicate_succ,List.replicate_succ,List.flatten_cons,List.flatten_cons]; exact h.app (HDs.rep h k)
theorem HDs.dropLastD {K:PySem.W.Frag} {H:Hp} {xs:List V} {ds:List D} (h:HDs K H xs ds):HDs K H xs.dropLast ds.dropLast:=by
 rw [List.dropLast_eq_take,List.dropLast_eq_take,h.len]; exact h.takeD _
theorem HDs.ints {K:PySem.W.Frag} {H:Hp}:∀ ns:List Int,HDs K H (ns.map V.int) (ns.map PyData.int)
 | []=>.nil
 | n :: ns=>.cons (.int n) (HDs.ints ns)
theorem zov {H:Hp} {A:List Addr} {a:Addr} {xs:List V} (h:TupT H a xs) (al:Ls A H):TupT (wo H A) a xs:=by
 rcases h with h | ⟨ob,h⟩
 ·refine .inl ?_
  rw [zam fun z=>?_]; exact h
  obtain ⟨o,e,q⟩:=al.1 a z
  rw [h] at e; cases e; exact q
 ·refine .inr ⟨ob,?_⟩
  rw [zam fun z=>?_]; exact h
  obtain ⟨o,e,q⟩:=al.1 a z
  rw [h] at e; cases e; exact q
inductive OwO (K:PySem.W.Frag) (H:Hp):HO->D->Prop
 | lst {ys:List V} {ds:List D}:HDs K H ys ds->OwO K H (.lst ys) (.list ds)
 | dct {kvs:List (List Key×V)} {kds:List (D×D)}:kds.map (·.1)=kvs.map (fun p=>PyData.tuple (p.1.map keyD))->HDs K H (kvs.map (·.2)) (kds.map (·.2))->OwO K H (.dT kvs) (.dict kds)
theorem OwO.same {K:PySem.W.Frag} {H H':Hp} {o:HO} {d:D} (s:Same H H') (h:OwO K H o d):OwO K H' o d:=by
 cases h with
 | lst q=>exact .lst (q.same s)
 | dct k q=>exact .dct k (q.same s)
theorem OwO.own {K:PySem.W.Frag} {H:Hp} {o:HO} {d:D} (h:OwO K H o d):OwnO o:=by cases h <;> trivial
theorem OwO.hd {K:PySem.W.Frag} {H:Hp} {o:HO} {d:D} {l:Addr} (h:OwO K H o d) (e:H l=some o):HD K H (.ref l) d:=by
 cases h with
 | lst q=>exact .lst (.of e) q
 | dct k q=>exact .dct e k q
noncomputable def fnD:List (D×D)->Bool
 | (.list [],_) :: _=>true
 | _=>false
noncomputable def ShD (K:PySem.W.Frag) (A:List Addr) (H:Hp) (v:V) (d:D):Prop:=HD K (wo H A) v d \/ ∃ l o,v=.ref l /\ H l=some o /\ OwO K (wo H A) o d
section
variable {K:PySem.W.Frag} {H H':Hp} {A A':List Addr} {v:V} {d:D}
theorem ShD.of (h:HD K (wo H A) v d):ShD K A H v d:=.inl h
theorem ShD.same (s:Same H H') (h:ShD K A H v d):ShD K A H' v d:=by
 rcases h with h | ⟨l,o,rfl,e,q⟩
 ·exact .inl (h.same (zav s))
 ·exact .inr ⟨l,o,rfl,s _ _ e,q.same (zav s)⟩
theorem ShD.isD (h:ShD K A H v d):HD K H v d:=by
 rcases h with h | ⟨l,o,rfl,e,q⟩
 ·exact h.same zan
 ·exact (q.same zan).hd e
theorem ShD.list {ds:List D} (h:ShD K A H v (.list ds)):∃ l ys,v=.ref l /\ LsD K H l ys /\ HDs K (wo H A) ys ds:=by
 rcases h with h | ⟨l,o,rfl,e,q⟩
 ·cases h with
  | lst hq h=>exact ⟨_,_,rfl,hq.same zan,h⟩
 ·cases q with
  | lst q=>exact ⟨l,_,rfl,.of e,q⟩
theorem ShD.tupH {ds:List D} (h:ShD K A H v (.tuple ds)):∃ l ys,v=.ref l /\ TupT H l ys /\ HDs K (wo H A) ys ds:=by
 rcases h with h | ⟨l,o,rfl,e,q⟩
 ·cases h with
  | tup hq h=>exact ⟨_,_,rfl,zan.tupT hq,h⟩
 ·cases q
theorem ShD.tuple {ds:List D} (h:ShD K A H v (.tuple ds)):∃ l ys,v=.ref l /\ SqT K H l ys /\ HDs K (wo H A) ys ds:=
 let ⟨l,ys,a,b,c⟩:=h.tupH; ⟨l,ys,a,.inl b,c⟩
theorem ShD.dict {kds:List (D×D)} (h:ShD K A H v (.dict kds)) (hf:fnD kds=false):∃ l kvs,v=.ref l /\ H l=some (.dT kvs) /\ kds.map (·.1)=kvs.map (fun p=>PyData.tuple (p.1.map keyD)) /\ HDs K (wo H A) (kvs.map (·.2)) (kds.map (·.2)):=by
 rcases h with h | ⟨l,o,rfl,e,q⟩
 ·cases h with
  | dct hq k h=>exact ⟨_,_,rfl,zan _ _ hq,k,h⟩
  | exc _ _=>cases hf
 ·cases q with
  | dct k q=>exact ⟨l,_,rfl,e,k,q⟩
theorem ShD.fz {ds:List D} (h:ShD K A H v (.tuple ds)):HD K (wo H A) v (.tuple ds):=by
 rcases h with h | ⟨l,o,rfl,e,q⟩
 ·exact h
 ·cases q
theorem ShD.int {i:Int} (h:ShD K A H v (.int i)):v=.int i:=by
 rcases h with h | ⟨l,o,rfl,e,q⟩
 ·cases h; rfl
 ·cases q
theorem ShD.bool {b:Bool} (h:ShD K A H v (.bool b)):v=.bl b:=by
 rcases h with h | ⟨l,o,rfl,e,q⟩
 ·cases h; rfl
 ·cases q
theorem ShD.str {b:Str} (h:ShD K A H v (.str b)):v=.str b:=by
 rcases h with h | ⟨l,o,rfl,e,q⟩
 ·cases h; rfl
 ·cases q
theorem ShD.non (h:ShD K A H v .none):v=.non:=by
 rcases h with h | ⟨l,o,rfl,e,q⟩
 ·cases h; rfl
 ·cases q
end
structure Rel (K:PySem.W.Frag) (O:List Nat) (U A0:List Addr) (σ:St) (δ:DS) (H:Hp):Prop where
 len:σ.length=δ.length
 fz:∀ (i:Nat) d,i∉O->δ[i]?=some (some d)->∃ v,σ[i]?=some (some v) /\ HD K (wo H (U ++ A0)) v d
 ow:∀ (i:Nat) d,i∈O->δ[i]?=some (some d)->∃ l o,σ[i]?=some (some (.ref l)) /\ l∈U /\ H l=some o /\ OwO K (wo H (U ++ A0)) o d
 inj:∀ (i j:Nat) d e l,i∈O->j∈O->i≠j->δ[i]?=some (some d)->δ[j]?=some (some e)->σ[i]?=some (some (.ref l))->σ[j]?=some (some (.ref l))->False
 al:Ls (U ++ A0) H
section
variable {K:PySem.W.Frag} {O:List Nat} {U A0:List Addr} {σ:St} {δ:DS} {H H':Hp}
theorem Rel.same (R:Rel K O U A0 σ δ H) (s:Same H H'):Rel K O U A0 σ δ H' where
 len:=R.len
 fz:=fun i d hi e=>let ⟨v,a,b⟩:=R.fz i d hi e; ⟨v,a,b.same (zav s)⟩
 ow:=fun i d hi e=>let ⟨l,o,a,c,f,g⟩:=R.ow i d hi e; ⟨l,o,a,c,s _ _ f,g.same (zav s)⟩
 inj:=R.inj
 al:=R.al.same s
theorem Rel.owL (R:Rel K O U A0 σ δ H) (i:Nat) (d:D) (hi:i∈O) (e:δ[i]?=some (some d)):(∃ l ys ds,σ[i]?=some (some (.ref l)) /\ d=.list ds /\ l∈U /\ H l=some (.lst ys) /\ HDs K (wo H (U ++ A0)) ys ds) \/ ∃ kds,d=.dict kds:=by
 obtain ⟨l,o,a,c,f,g⟩:=R.ow i d hi e
 cases g with
 | lst q=>exact .inl ⟨l,_,_,a,rfl,c,f,q⟩
 | dct k q=>exact .inr ⟨_,rfl⟩
theorem Rel.at (R:Rel K O U A0 σ δ H) {i:Nat} {d:D} (e:δ[i]?=some (some d)):∃ v,σ[i]?=some (some v) /\ ShD K (U ++ A0) H v d:=by
 by_cases hi:i∈O
 ·obtain ⟨l,o,a,c,f,g⟩:=R.ow i d hi e
  exact ⟨_,a,.inr ⟨l,o,rfl,f,g⟩⟩
 ·obtain ⟨v,a,b⟩:=R.fz i d hi e
  exact ⟨v,a,.inl b⟩
theorem Rel.set (R:Rel K O U A0 σ δ H) {i:Nat} {v:V} {d:D} (hi:i∉O) (h:HD K (wo H (U ++ A0)) v d):Rel K O U A0 (σ.set i (some v)) (δ.set i (some d)) H where
 len:=by rw [List.length_set,List.length_set]; exact R.len
 fz:=fun j e hj q=>by
  by_cases hij:i=j
  ·subst hij
   have hl:i < δ.length:=by have:=(List.getElem?_eq_some_iff.mp q).1; rwa [List.length_set] at this
   rw [List.getElem?_set_self hl] at q
   cases q
   exact ⟨v,List.getElem?_set_self (by rw [R.len]; exact hl),h⟩
  ·rw [List.getElem?_set_ne hij] at q ⊢
   exact R.fz j e hj q
 ow:=fun j e hj q=>by
  have hij:i≠j:=fun z=>hi (z ▸ hj)
  rw [List.getElem?_set_ne hij] at q ⊢
  exact R.ow j e hj q
 inj:=fun j k d e l hj hk hjk q1 q2 e1 e2=>by
  have hij:i≠j:=fun z=>hi (z ▸ hj)
  have hik:i≠k:=fun z=>hi (z ▸ hk)
  rw [List.getElem?_set_ne hij] at q1 e1
  rw [List.getElem?_set_ne hik] at q2 e2
  exact R.inj j k d e l hj hk hjk q1 q2 e1 e2
 al:=R.al
theorem Rel.setO (R:Rel K O U A0 σ δ H) (s:Same H H') {i:Nat} {r:Addr} {ob:HO} {db:D} (hr:H r=none) (h:H' r=some ob) (q:OwO K (wo H' (r :: (U ++ A0))) ob db) (hi:i∈O):
  Rel K O (r :: U) A0 (σ.set i (some (.ref r))) (δ.set i (some db)) H' where
 len:=by rw [List.length_set,List.length_set]; exact R.len
 fz:=fun j e hj q=>by
  have hij:i≠j:=fun z=>hj (z ▸ hi)
  rw [List.getElem?_set_ne hij] at q ⊢
  obtain ⟨v,a,b⟩:=R.fz j e hj q
  exact ⟨v,a,b.same (zjS s hr)⟩
 ow:=fun j e hj w=>by
  by_cases hij:i=j
  ·subst hij
   have hl:i < δ.length:=by have:=(List.getElem?_eq_some_iff.mp w).1; rwa [List.length_set] at this
   rw [List.getElem?_set_self hl] at w
   cases w
   exact ⟨r,ob,List.getElem?_set_self (by rw [R.len]; exact hl),by simp,h,q⟩
  ·rw [List.getElem?_set_ne hij] at w ⊢
   obtain ⟨l,o,a,c,f,g⟩:=R.ow j e hj w
   exact ⟨l,o,a,by simp [c],s _ _ f,g.same (zjS s hr)⟩
 inj:=fun j k d e l hj hk hjk q1 q2 e1 e2=>by
  have len1:∀ {x:D},(δ.set i (some db))[i]?=some (some x)->i < δ.length:=fun w=>by have:=(List.getElem?_eq_some_iff.mp w).1; rwa [List.length_set] at this
  by_cases hij:i=j
  ·subst hij
   have hik:i≠k:=hjk
   rw [List.getElem?_set_self (by rw [R.len]; exact len1 q1)] at e1
   rw [List.getElem?_set_ne hik] at q2 e2
   cases e1
   obtain ⟨l,o,a,c,f,g⟩:=R.ow k e hk q2
   rw [a] at e2; cases e2
   rw [hr] at f; cases f
  ·by_cases hik:i=k
   ·subst hik
    rw [List.getElem?_set_self (by rw [R.len]; exact len1 q2)] at e2
    rw [List.getElem?_set_ne hij] at q1 e1
    cases e2
    obtain ⟨l,o,a,c,f,g⟩:=R.ow j d hj q1
    rw [a] at e1; cases e1
    rw [hr] at f; cases f
   ·rw [List.getElem?_set_ne hij] at q1 e1
    rw [List.getElem?_set_ne hik] at q2 e2
    exact R.inj j k d e l hj hk hjk q1 q2 e1 e2
 al:=⟨fun a ha=>by
  rcases List.mem_append.mp ha with z | z
  ·rcases List.mem_cons.mp z with z | z
   ·subst z; exact ⟨ob,h,q.own⟩
   ·exact (R.al.same s).1 a (List.mem_append_left _ z)
  ·exact (R.al.same s).1 a (List.mem_append_right _ z),(R.al.same s).2⟩
theorem Rel.setN (R:Rel K O U A0 σ δ H) (s:Same H H') {i:Nat} {r:Addr} {ys:List V} {ds:List D} (hr:H r=none) (h:H' r=some (.lst ys)) (q:HDs K (wo H' (r :: (U ++ A0))) ys ds) (hi:i∈O):
  Rel K O (r :: U) A0 (σ.set i (some (.ref r))) (δ.set i (some (.list ds))) H':=R.setO s hr h (.lst q) hi
theorem Rel.putO (R:Rel K O U A0 σ δ H) {i:Nat} {l:Addr} {ob:HO} {db:D} (hi:i∈O) (hl:σ[i]?=some (some (.ref l))) (hU:l∈U) (q:OwO K (wo H (U ++ A0)) ob db) (hd:∃ d,δ[i]?=some (some d)):
  Rel K O U A0 σ (δ.set i (some db)) (upd H l ob):=by
 have hw:wo (upd H l ob) (U ++ A0)=wo H (U ++ A0):=znu (List.mem_append_left _ hU)
 obtain ⟨d0,hd⟩:=hd
 have hlen:i < δ.length:=(List.getElem?_eq_some_iff.mp hd).1
 exact {
  len:=by rw [List.length_set]; exact R.len
  fz:=fun j e hj w=>by
   have hij:i≠j:=fun z=>hj (z ▸ hi)
   rw [List.getElem?_set_ne hij] at w
   rw [hw]
   exact R.fz j e hj w
  ow:=fun j e hj w=>by
   rw [hw]
   by_cases hij:i=j
   ·subst hij
    rw [List.getElem?_set_self hlen] at w
    cases w
    exact ⟨l,ob,hl,hU,z8,q⟩
   ·rw [List.getElem?_set_ne hij] at w
    obtain ⟨l',o',a,c,f,g⟩:=R.ow j e hj w
    have hne:l'≠l:=by
     intro z; subst z
     exact R.inj i j d0 e _ hi hj hij hd w hl a
    exact ⟨l',o',a,c,by rw [zH hne]; exact f,g⟩
  inj:=fun j k d e l hj hk hjk q1 q2 e1 e2=>by
   have f:∀ {m:Nat} {x:D},(δ.set i (some db))[m]?=some (some x)->∃ y,δ[m]?=some (some y):=by
    intro m x w
    by_cases him:i=m
    ·subst him; exact ⟨d0,hd⟩
    ·rw [List.getElem?_set_ne him] at w; exact ⟨x,w⟩
   obtain ⟨y1,w1⟩:=f q1
   obtain ⟨y2,w2⟩:=f q2
   exact R.inj j k y1 y2 l hj hk hjk w1 w2 e1 e2
  al:=⟨fun a ha=>by
   by_cases e:a=l
   ·subst e; exact ⟨ob,z8,q.own⟩
   ·rw [zH e]; exact R.al.1 a ha,fun p xs m=>
    let ⟨_,e,w⟩:=R.al.1 l (List.mem_append_left _ hU)
    (R.al.2 p xs m).ne ((R.al.2 p xs m).apart e w)⟩ }
theorem Rel.put (R:Rel K O U A0 σ δ H) {i:Nat} {l:Addr} {ys:List V} {ds:List D} (hi:i∈O) (hl:σ[i]?=some (some (.ref l))) (hU:l∈U) (q:HDs K (wo H (U ++ A0)) ys ds) (hd:∃ d,δ[i]?=some (some d)):
  Rel K O U A0 σ (δ.set i (some (.list ds))) (upd H l (.lst ys)):=R.putO hi hl hU (.lst q) hd
end
structure Fx (H0:Hp) (A0 U:List Addr) (H:Hp):Prop where
 same:Same H0 H
 new:∀ a∈U,H0 a=none
 old:Ls A0 H0
section
variable {K:PySem.W.Frag} {O:List Nat} {U U' A0:List Addr} {σ:St} {δ:DS} {H0 H H':Hp}
theorem Fx.grow (F:Fx H0 A0 U H) (s:Same H H'):Fx H0 A0 U H':=⟨F.same.trans s,F.new,F.old⟩
theorem Fx.more (F:Fx H0 A0 U H) (s:Same H H') {r:Addr} (hr:H r=none):Fx H0 A0 (r :: U) H':=⟨F.same.trans s,fun a ha=>by
 rcases List.mem_cons.mp ha with z | z
 ·subst z; exact F.same.free hr
 ·exact F.new a z,F.old⟩
theorem Fx.put (F:Fx H0 A0 U H) {l:Addr} (hl:l∈U) (o:HO):Fx H0 A0 U (upd H l o):=⟨F.same.upd (F.new l hl) o,F.new,F.old⟩
theorem Fx.out (F:Fx H0 A0 U H) {l:Addr} (hl:l∈U):l∉A0:=fun z=>by
 obtain ⟨ys,e,_⟩:=F.old.1 l z
 rw [F.new l hl] at e; cases e
theorem Fx.here (F:Fx H0 A0 U H):Fx (wo H U) A0 U H:=⟨zan,fun _ h=>zes h,fun a ha=>by
 obtain ⟨ys,e,q⟩:=F.old.1 a ha
 refine ⟨ys,?_,q⟩
 rw [zam fun z=>?_]
 ·exact F.same _ _ e
 ·exact F.out z ha,fun p xs m=>(F.same.tupT (F.old.2 p xs m)).wo fun z=>by
 rcases F.old.2 p xs m with t | ⟨ob,t⟩ <;> rw [F.new p z] at t <;> cases t⟩
theorem Fx.trans (F:Fx H0 A0 U H) (G:Fx (wo H U) A0 U' H'):Fx H0 A0 U' H':=by
 have k:∀ a o,H0 a=some o->wo H U a=some o:=fun a o e=>by
  rw [zam fun z=>?_]
  ·exact F.same _ _ e
  ·rw [F.new a z] at e; cases e
 refine ⟨fun a o e=>G.same _ _ (k a o e),fun a ha=>?_,F.old⟩
 cases e:H0 a with
 | none=>rfl
 | some o=>
   have:=G.new a ha
   rw [k a o e] at this; cases this
theorem Fx.keeps (G:Fx (wo H U) A0 U' H'):Same (wo H (U ++ A0)) (wo H' (U' ++ A0)):=fun b o e=>by
 obtain ⟨h1,h2⟩:=zdc e
 simp only [List.mem_append,not_or] at h1
 have h3:wo H U b=some o:=by rw [zam h1.1]; exact h2
 rw [zam]
 ·exact G.same _ _ h3
 ·simp only [List.mem_append,not_or]
  refine ⟨fun z=>?_,h1.2⟩
  rw [G.new b z] at h3; cases h3
end
noncomputable def tE (K:PySem.W.Frag) (O:List Nat) (g:DS->Option D):TE:=fun σ H Q=>∃ U A0 δ d,Rel K O U A0 σ δ H /\ g δ=some d /\ ∀ v H',Same H H'->HD K (wo H' (U ++ A0)) v d->Q v H'
theorem tE.e {K:PySem.W.Frag} {O:List Nat} {g:DS->Option D}  {σ:_} {H:_} {Q:_} {GG:Prop} (hh:tE K O g σ H Q) (kk:∀ U A0 δ d,(Rel K O U A0 σ δ H)->(g δ=some d)->(∀ v H',Same H H'->HD K (wo H' (U ++ A0)) v d->Q v H')->GG):GG:=by obtain ⟨U,A0,δ,d,x0,x1,x2⟩:=hh; exact kk U A0 δ d x0 x1 x2
noncomputable def tSh (K:PySem.W.Frag) (O:List Nat) (g:DS->Option D):TE:=fun σ H Q=>∃ U A0 δ d,Rel K O U A0 σ δ H /\ g δ=some d /\ ∀ v H',Same H H'->ShD K (U ++ A0) H' v d->Q v H'
theorem tSh.e {K:PySem.W.Frag} {O:List Nat} {g:DS->Option D}  {σ:_} {H:_} {Q:_} {GG:Prop} (hh:tSh K O g σ H Q) (kk:∀ U A0 δ d,(Rel K O U A0 σ δ H)->(g δ=some d)->(∀ v H',Same H H'->ShD K (U ++ A0) H' v d->Q v H')->GG):GG:=by obtain ⟨U,A0,δ,d,x0,x1,x2⟩:=hh; exact kk U A0 δ d x0 x1 x2
noncomputable def tN (K:PySem.W.Frag) (O:List Nat) (g:DS->Option (List D)):TE:=fun σ H Q=>∃ U A0 δ ds,Rel K O U A0 σ δ H /\ g δ=some ds /\
 ∀ r ys H',Same H H'->H r=none->H' r=some (.lst ys)->HDs K (wo H' (r :: (U ++ A0))) ys ds->Q (.ref r) H'
theorem tN.e {K:PySem.W.Frag} {O:List Nat} {g:DS->Option (List D)}  {σ:_} {H:_} {Q:_} {GG:Prop} (hh:tN K O g σ H Q) (kk:∀ U A0 δ ds,(Rel K O U A0 σ δ H)->(g δ=some ds)->(∀ r ys H',Same H H'->H r=none->H' r=some (.lst ys)->HDs K (wo H' (r :: (U ++ A0))) ys ds->Q (.ref r) H')->GG):GG:=by obtain ⟨U,A0,δ,ds,x0,x1,x2⟩:=hh; exact kk U A0 δ ds x0 x1 x2
noncomputable def tT (K:PySem.W.Frag) (O:List Nat) (g:DS->Option Bool):TT:=fun σ H Q=>∃ U A0 δ b,Rel K O U A0 σ δ H /\ g δ=some b /\ ∀ H',Same H H'->Q b H'
theorem tT.e {K:PySem.W.Frag} {O:List Nat} {g:DS->Option Bool}  {σ:_} {H:_} {Q:_} {GG:Prop} (hh:tT K O g σ H Q) (kk:∀ U A0 δ b,(Rel K O U A0 σ δ H)->(g δ=some b)->(∀ H',Same H H'->Q b H')->GG):GG:=by obtain ⟨U,A0,δ,b,x0,x1,x2⟩:=hh; exact kk U A0 δ b x0 x1 x2
noncomputable def tAs (K:PySem.W.Frag) (O:List Nat) (g:DS->Option (List D)):TA:=fun σ H Q=>∃ U A0 δ ds,Rel K O U A0 σ δ H /\ g δ=some ds /\ ∀ vs H',Same H H'->HDs K (wo H' (U ++ A0)) vs ds->Q vs H'
theorem tAs.e {K:PySem.W.Frag} {O:List Nat} {g:DS->Option (List D)}  {σ:_} {H:_} {Q:_} {GG:Prop} (hh:tAs K O g σ H Q) (kk:∀ U A0 δ ds,(Rel K O U A0 σ δ H)->(g δ=some ds)->(∀ vs H',Same H H'->HDs K (wo H' (U ++ A0)) vs ds->Q vs H')->GG):GG:=by obtain ⟨U,A0,δ,ds,x0,x1,x2⟩:=hh; exact kk U A0 δ ds x0 x1 x2
noncomputable def ShDs (K:PySem.W.Frag) (A:List Addr) (H:Hp):List V->List D->Prop:=Paired (ShD K A H)
noncomputable def tAsh (K:PySem.W.Frag) (O:List Nat) (g:DS->Option (List D)):TA:=fun σ H Q=>∃ U A0 δ ds,Rel K O U A0 σ δ H /\ g δ=some ds /\ ∀ vs H',Same H H'->ShDs K (U ++ A0) H' vs ds->Q vs H'
theorem tAsh.e {K:PySem.W.Frag} {O:List Nat} {g:DS->Option (List D)}  {σ:_} {H:_} {Q:_} {GG:Prop} (hh:tAsh K O g σ H Q) (kk:∀ U A0 δ ds,(Rel K O U A0 σ δ H)->(g δ=some ds)->(∀ vs H',Same H H'->ShDs K (U ++ A0) H' vs ds->Q vs H')->GG):GG:=by obtain ⟨U,A0,δ,ds,x0,x1,x2⟩:=hh; exact kk U A0 δ ds x0 x1 x2
inductive Res where
 | nx (δ:DS) | rt (d:D) | bk (δ:DS) | ct (δ:DS)
noncomputable def RetR (K:PySem.W.Frag) (fr:Bool) (H0:Hp) (A0:List Addr) (v:V) (d:D) (H':Hp):Prop:=
 if fr=true then ∃ r o,v=.ref r /\ Same H0 H' /\ H0 r=none /\ H' r=some o /\ OwO K (wo H' (r :: A0)) o d else Same H0 H' /\ HD K (wo H' A0) v d
noncomputable def rxD (c:Str):D:=.dict [(.none,.str c)]
noncomputable abbrev Fr:=Bool×(Str->Hp->Prop)
noncomputable def Post (K:PySem.W.Frag) (O:List Nat) (fr:Fr) (H0:Hp) (A0:List Addr) (E:Ends):Res->Prop
 | .nx δ=>∀ U σ H,Rel K O U A0 σ δ H->Fx H0 A0 U H->E.nx σ H
 | .bk δ=>∀ U σ H,Rel K O U A0 σ δ H->Fx H0 A0 U H->E.bk σ H
 | .ct δ=>∀ U σ H,Rel K O U A0 σ δ H->Fx H0 A0 U H->E.ct σ H
 | .rt d=>(∀ v H,RetR K fr.1 H0 A0 v d H->E.rt v H) /\ ∀ c H,d=rxD c->Same H0 H->fr.2 c H
noncomputable def tS (K:PySem.W.Frag) (O:List Nat) (fr:Fr) (g:DS->Option Res):TS:=fun E σ H=>∃ H0 U A0 δ r,Rel K O U A0 σ δ H /\ Fx H0 A0 U H /\ g δ=some r /\ Post K O fr H0 A0 E r
theorem tS.e {K:PySem.W.Frag} {O:List Nat} {fr:Fr} {g:DS->Option Res}  {E:_} {σ:_} {H:_} {GG:Prop} (hh:tS K O fr g E σ H) (kk:∀ H0 U A0 δ r,(Rel K O U A0 σ δ H)->(Fx H0 A0 U H)->(g δ=some r)->(Post K O fr H0 A0 E r)->GG):GG:=by obtain ⟨H0,U,A0,δ,r,x0,x1,x2,x3⟩:=hh; exact kk H0 U A0 δ r x0 x1 x2 x3
noncomputable def Walks (K:PySem.W.Frag) (A:List Addr) (H1:Hp) (J:It) (ds:List D):Prop:=∀ (A':List Addr) (i:Nat) (H:Hp),Same (wo H1 A) (wo H A')->Ls A' H->
 (∀ d,ds[i]?=some d->J.go i H /\ ∀ x H2,J.yld i H x H2->Same H H2 /\ HD K (wo H2 A') x d) /\ (i=ds.length->J.stop i H)
noncomputable def tI (K:PySem.W.Frag) (O:List Nat) (g:DS->Option (List D)):TI:=fun σ H R=>∃ U A0 δ ds,Rel K O U A0 σ δ H /\ g δ=some ds /\ ∀ J H1,Same H H1->Walks K (U ++ A0) H1 J ds->R J H1
theorem tI.e {K:PySem.W.Frag} {O:List Nat} {g:DS->Option (List D)}  {σ:_} {H:_} {R:_} {GG:Prop} (hh:tI K O g σ H R) (kk:∀ U A0 δ ds,(Rel K O U A0 σ δ H)->(g δ=some ds)->(∀ J H1,Same H H1->Walks K (U ++ A0) H1 J ds->R J H1)->GG):GG:=by obtain ⟨U,A0,δ,ds,x0,x1,x2⟩:=hh; exact kk U A0 δ ds x0 x1 x2
noncomputable def tG (K:PySem.W.Frag) (O:List Nat) (g:D->DS->Option DS):TG:=fun v σ H Q=>∃ U A0 δ d δ',Rel K O U A0 σ δ H /\ HD K (wo H (U ++ A0)) v d /\ g d δ=some δ' /\ ∀ σ',Rel K O U A0 σ' δ' H->Q σ' H
theorem tG.e {K:PySem.W.Frag} {O:List Nat} {g:D->DS->Option DS}  {v:_} {σ:_} {H:_} {Q:_} {GG:Prop} (hh:tG K O g v σ H Q) (kk:∀ U A0 δ d δ',(Rel K O U A0 σ δ H)->(HD K (wo H (U ++ A0)) v d)->(g d δ=some δ')->(∀ σ',Rel K O U A0 σ' δ' H->Q σ' H)->GG):GG:=by obtain ⟨U,A0,δ,d,δ',x0,x1,x2,x3⟩:=hh; exact kk U A0 δ d δ' x0 x1 x2 x3
end L2
namespace L2
open PySem PySem.Spec PyProof.Rows
section
variable {X:Cx}
theorem PE.mono {e:Expr} {t t':TE} (h:PE X e t) (m:∀ σ H Q,t' σ H Q->t σ H Q):PE X e t':=fun pins s σ H Q I q=>h pins s σ H Q I (m σ H Q q)
theorem PT.mono {e:Expr} {t t':TT} (h:PT X e t) (m:∀ σ H Q,t' σ H Q->t σ H Q):PT X e t':=fun pins s σ H Q I q=>h pins s σ H Q I (m σ H Q q)
theorem PW.mono {e:Expr} {t t':TT} (h:PW X e t) (m:∀ σ H Q,t' σ H Q->t σ H Q):PW X e t':=fun w pins s σ H Q I q=>h w pins s σ H Q I (m σ H Q q)
theorem PA.mono {e:List Expr} {t t':TA} (h:PA X e t) (m:∀ σ H Q,t' σ H Q->t σ H Q):PA X e t':=fun pos pins s σ H Q I q=>h pos pins s σ H Q I (m σ H Q q)
theorem PS.mono {e:Stmt} {t t':TS} (h:PS X e t) (m:∀ E σ H,t' E σ H->t E σ H):PS X e t':=fun pins s σ H E I q=>h pins s σ H E I (m E σ H q)
theorem PSs.mono {e:List Stmt} {t t':TS} (h:PSs X e t) (m:∀ E σ H,t' E σ H->t E σ H):PSs X e t':=fun pins s σ H E I q=>h pins s σ H E I (m E σ H q)
theorem PI.mono {tg e:Expr} {t t':TI} (h:PI X tg e t) (m:∀ σ H R,t' σ H R->t σ H R):PI X tg e t':=fun pins s σ H R I q=>h pins s σ H R I (m σ H R q)
theorem PG.mono {e:Expr} {t t':TG} (h:PG X e t) (m:∀ v σ H Q,t' v σ H Q->t v σ H Q):PG X e t':=fun pins s σ H v u Q I r q=>h pins s σ H v u Q I r (m v σ H Q q)
theorem PO.mono {e:Option Expr} {t t':TO} (h:PO X e t) (m:∀ σ H Q,t' σ H Q->t σ H Q):PO X e t':=fun pins s σ H Q I q=>h pins s σ H Q I (m σ H Q q)
end
noncomputable def gVar (i:Nat):DS->Option D:=fun δ=>(δ[i]?).join
noncomputable def gC (d:D):DS->Option D:=fun _=>some d
noncomputable def gLst (g:DS->Option (List D)):DS->Option D:=fun δ=>(g δ).map .list
theorem zr {α:Type} {o:Option (Option α)} {d:α} (h:o.join=some d):o=some (some d):=by
 cases o with
 | none=>cases h
 | some p=>cases p with
   | none=>cases h
   | some q=>cases h; rfl
section
variable {X:Cx} {O:List Nat} {e:Expr} {g:DS->Option D}
theorem zg {i:Nat} (h:PE X e (tVar i)) (hi:i∉O:=by decide):PE X e (tE X.K O (gVar i)):=h.mono fun σ H Q hh=>hh.e fun U A0 δ d R ed q=>by
 obtain ⟨v,hv,hd⟩:=R.fz i d hi (zr ed)
 exact ⟨v,hv,q v H (Same.refl H) hd⟩
theorem zc {i:Nat} (h:PE X e (tVar i)):PE X e (tSh X.K O (gVar i)):=h.mono fun σ H Q hh=>hh.e fun U A0 δ d R ed q=>by
 obtain ⟨v,hv,hd⟩:=R.at (zr ed)
 exact ⟨v,hv,q v H (Same.refl H) hd⟩
theorem pd_c {v:V} {d:D} (h:PE X e (tC v)) (hd:∀ H,HD X.K H v d):PE X e (tE X.K O (gC d)):=h.mono fun σ H Q hh=>hh.e fun U A0 δ d' R ed q=>by
 cases ed
 exact q v H (Same.refl H) (hd _)
theorem zd {i:Int} (h:PE X e (tC (.int i))):PE X e (tE X.K O (gC (.int i))):=pd_c h fun _=>.int i
theorem zpW {i:Bool} (h:PE X e (tC (.bl i))):PE X e (tE X.K O (gC (.bool i))):=pd_c h fun _=>.bl i
theorem zbs {i:Str} (h:PE X e (tC (.str i))):PE X e (tE X.K O (gC (.str i))):=pd_c h fun _=>.str i
theorem PE.sh (h:PE X e (tE X.K O g)):PE X e (tSh X.K O g):=h.mono fun σ H Q hh=>hh.e fun U A0 δ d R ed q=>⟨U,A0,δ,d,R,ed,fun v H' s z=>q v H' s (.inl z)⟩
theorem zpu {K:PySem.W.Frag} {g:DS->Option (List D)} {σ:St} {H:Hp} {Q:VK}:tE K O (gLst g) σ H Q->tN K O g σ H Q:=fun ⟨U,A0,δ,d,R,ed,q⟩=>by
 unfold gLst at ed
 cases eg:g δ with
 | none=>rw [eg] at ed; cases ed
 | some ds=>
   rw [eg] at ed; cases ed
   refine ⟨U,A0,δ,ds,R,eg,fun r ys H' s hr h1 h2=>q _ H' s ?_⟩
   have hn:=R.al.free hr
   exact .lst (.of (by rw [zam hn]; exact h1)) (h2.same (zd1 fun a ha=>List.mem_cons_of_mem _ ha))
theorem PE.nE {g:DS->Option (List D)} (h:PE X e (tN X.K O g)):PE X e (tE X.K O (gLst g)):=h.mono fun _ _ _=>zpu
end
noncomputable def g2 (f:D->D->Option D) (a b:DS->Option D):DS->Option D:=fun δ=>(a δ).bind fun x=>(b δ).bind fun y=>f x y
noncomputable def g2N (f:D->D->Option (List D)) (a b:DS->Option D):DS->Option (List D):=fun δ=>(a δ).bind fun x=>(b δ).bind fun y=>f x y
noncomputable def Imp2 (K:PySem.W.Frag) (r:R2) (f:D->D->Option D):Prop:=∀ (A:List Addr) (H:Hp) (x y:V) (dx dy d:D) (Q:VK),Ls A H->ShD K A H x dx->ShD K A H y dy->f dx dy=some d->(∀ v H',Same H H'->HD K (wo H' A) v d->Q v H')->r x y H Q
noncomputable def Imp2N (K:PySem.W.Frag) (r:R2) (f:D->D->Option (List D)):Prop:=∀ (A:List Addr) (H:Hp) (x y:V) (dx dy:D) (ds:List D) (Q:VK),Ls A H->ShD K A H x dx->ShD K A H y dy->f dx dy=some ds->
 (∀ p ys,H p=none->HDs K (wo H A) ys ds->Q (.ref p) (upd H p (.lst ys)))->r x y H Q
theorem bind2 {α β γ:Type} {a:Option α} {b:Option β} {f:α->β->Option γ} {d:γ} (h:(a.bind fun x=>b.bind fun y=>f x y)=some d):∃ x y,a=some x /\ b=some y /\ f x y=some d:=by
 cases a with
 | none=>cases h
 | some x=>cases b with
   | none=>cases h
   | some y=>exact ⟨x,y,rfl,rfl,h⟩
theorem bind1 {α β:Type} {a:Option α} {f:α->Option β} {d:β} (h:a.bind f=some d):∃ x,a=some x /\ f x=some d:=by
 cases a with
 | none=>cases h
 | some x=>exact ⟨x,rfl,h⟩
section
variable {X:Cx} {O:List Nat} {a b:Expr} {ga gb:DS->Option D} {pos:Pos} {r:R2}
theorem zmq {K:PySem.W.Frag} {f:D->D->Option D} (imp:Imp2 K r f) {σ:St} {H:Hp} {Q:VK}:tE K O (g2 f ga gb) σ H Q->tOp r (tSh K O ga) (tSh K O gb) σ H Q:=fun ⟨U,A0,δ,d,R,ed,q⟩=>by
 obtain ⟨x,y,ex,ey,ef⟩:=bind2 ed
 exact ⟨U,A0,δ,x,R,ex,fun v1 H1 s1 h1=>⟨U,A0,δ,y,R.same s1,ey,fun v2 H2 s2 h2=>imp _ H2 v1 v2 x y d Q (R.same (s1.trans s2)).al (h1.same s2) h2 ef fun v H' s h=>q v H' ((s1.trans s2).trans s) h⟩⟩
theorem zjC {K:PySem.W.Frag} {A:List Addr} {H H2:Hp} {ds:List D} {Q:VK} (s:Same H H2) (q:∀ r ys H',Same H H'->H r=none->H' r=some (.lst ys)->HDs K (wo H' (r :: A)) ys ds->Q (.ref r) H'):∀ p ys,H2 p=none->HDs K (wo H2 A) ys ds->Q (.ref p) (upd H2 p (.lst ys)):=
 fun p ys hp h=>q p ys _ (s.trans (z9 hp _)) (s.free hp) z8 (by rw [zhM hp]; exact h)
theorem zqK {K:PySem.W.Frag} {f:D->D->Option (List D)} (imp:Imp2N K r f) {σ:St} {H:Hp} {Q:VK}:tN K O (g2N f ga gb) σ H Q->tOp r (tSh K O ga) (tSh K O gb) σ H Q:=fun ⟨U,A0,δ,d,R,ed,q⟩=>by
 obtain ⟨x,y,ex,ey,ef⟩:=bind2 ed
 exact ⟨U,A0,δ,x,R,ex,fun v1 H1 s1 h1=>⟨U,A0,δ,y,R.same s1,ey,fun v2 H2 s2 h2=>imp _ H2 v1 v2 x y d Q (R.same (s1.trans s2)).al (h1.same s2) h2 ef (zjC (s1.trans s2) q)⟩⟩
theorem zl {op:Operator} {f:D->D->Option D} (ho:OpR X (binaryOp op) r) (imp:Imp2 X.K r f) (ha:PE X a (tSh X.K O ga)) (hb:PE X b (tSh X.K O gb)):PE X (.BinOp a op b pos) (tE X.K O (g2 f ga gb)):=(zo1 ho ha hb).mono fun _ _ _=>zmq imp
theorem zkC {op:Operator} {f:D->D->Option (List D)} (ho:OpR X (binaryOp op) r) (imp:Imp2N X.K r f) (ha:PE X a (tSh X.K O ga)) (hb:PE X b (tSh X.K O gb)):PE X (.BinOp a op b pos) (tN X.K O (g2N f ga gb)):=(zo1 ho ha hb).mono fun _ _ _=>zqK imp
theorem zdA {op:CmpOp} {f:D->D->Option D} (ho:OpR X (compareOp op) r) (imp:Imp2 X.K r f) (ha:PE X a (tSh X.K O ga)) (hb:PE X b (tSh X.K O gb)) (hm:behindInMarks op b=false):PE X (.Compare a [op] [b] pos) (tE X.K O (g2 f ga gb)):=(zn6 ho ha hb hm).mono fun _ _ _=>zmq imp
noncomputable def gB (g:DS->Option D):DS->Option Bool:=fun δ=>(g δ).bind fun | .bool b=>some b | _=>none
theorem zqn {K:PySem.W.Frag} {g:DS->Option D} {te:TE} (m:∀ σ H Q,tE K O g σ H Q->te σ H Q) {σ:St} {H:Hp} {Q:Bool->Hp->Prop}:tT K O (gB g) σ H Q->te σ H fun x H'=>∃ k,x=.bl k /\ Q k H':=fun ⟨U,A0,δ,b,R,ed,q⟩=>by
 obtain ⟨d,e1,e2⟩:=bind1 ed
 cases d with
 | bool c=>
   cases e2
   exact m σ H _ ⟨U,A0,δ,_,R,e1,fun v H' s h=>by cases h; exact ⟨_,rfl,q H' s⟩⟩
 | _=>cases e2
theorem zK {op:CmpOp} {f:D->D->Option D} (ho:OpR X (compareOp op) r) (imp:Imp2 X.K r f) (ha:PE X a (tSh X.K O ga)) (hb:PE X b (tSh X.K O gb)) (hm:behindInMarks op b=false):PT X (.Compare a [op] [b] pos) (tT X.K O (gB (g2 f ga gb))):=(zpg ho ha hb hm).mono fun _ _ _=>zqn fun _ _ _=>zmq imp
end
noncomputable def dI (g:Int->Int->D):D->D->Option D
 | .int a,.int b=>some (g a b)
 | _,_=>none
open Classical in
noncomputable def dIc (C:Int->Int->Prop) (g:Int->Int->D):D->D->Option D
 | .int a,.int b=>if C a b then some (g a b) else none
 | _,_=>none
open Classical in
theorem zgR {C:Int->Int->Prop} {g:Int->Int->D} {a b:Int} (h:C a b):dIc C g (.int a) (.int b)=some (g a b):=by
 show (if C a b then some (g a b) else none)=_
 rw [if_pos h]
theorem zjc {g:Int->Int->D} {a b:Int}:dI g (.int a) (.int b)=some (g a b):=rfl
theorem zce {K:PySem.W.Frag} {g:Int->Int->Int}:Imp2 K (rI0 fun i j=>.int (g i j)) (dI fun i j=>.int (g i j)):=by
 intro A H x y dx dy d Q al hx hy e q
 unfold dI at e
 split at e
 ·cases e
  exact ⟨_,_,hx.int,hy.int,q _ H (Same.refl H) (.int _)⟩
 ·cases e
theorem zal {K:PySem.W.Frag} {g:Int->Int->Bool}:Imp2 K (rI0 fun i j=>.bl (g i j)) (dI fun i j=>.bool (g i j)):=by
 intro A H x y dx dy d Q al hx hy e q
 unfold dI at e
 split at e
 ·cases e
  exact ⟨_,_,hx.int,hy.int,q _ H (Same.refl H) (.bl _)⟩
 ·cases e
set_option tactic.hygienic true in
theorem zo {K:PySem.W.Frag} {C:Int->Int->Prop} {g:Int->Int->Int}:Imp2 K (rI C fun i j=>.int (g i j)) (dIc C fun i j=>.int (g i j)):=by
 intro A H x y dx dy d Q al hx hy e q
 unfold dIc at e
 split at e
 ·split at e
  ·rename_i c
   cases e
   exact ⟨_,_,hx.int,hy.int,c,q _ H (Same.refl H) (.int _)⟩
  ·cases e
 ·cases e
noncomputable abbrev dSub:D->D->Option D:=dI fun i j=>.int (i - j)
noncomputable abbrev dMulI:D->D->Option D:=dIc IntMulOk fun i j=>.int (i * j)
noncomputable abbrev dDiv:D->D->Option D:=dIc CDivS fun i j=>.int (i.fdiv j)
noncomputable abbrev dMod:D->D->Option D:=dIc (fun _ j=>j≠0) fun i j=>.int (i.fmod j)
noncomputable abbrev dPow:D->D->Option D:=dIc CPow fun i j=>.int (i ^ j.toNat)
noncomputable abbrev dLt:D->D->Option D:=dI fun i j=>.bool (decide (i < j))
noncomputable abbrev dLe:D->D->Option D:=dI fun i j=>.bool (decide (i<=j))
noncomputable abbrev dGt:D->D->Option D:=dI fun i j=>.bool (decide (j < i))
noncomputable abbrev dGe:D->D->Option D:=dI fun i j=>.bool (decide (j<=i))
noncomputable def dEq:D->D->Option D
 | .int a,.int b=>some (.bool (decide (a=b)))
 | a,b=>if (SeqAt.shaped a && SeqAt.shaped b)=true then some (.bool (PyData.eqv a b)) else none
noncomputable def dNe:D->D->Option D:=fun a b=>(dEq a b).bind fun | .bool c=>some (.bool (!c)) | _=>none
set_option tactic.hygienic true in
theorem zj9 {a b d:D} (h:dEq a b=some d):SeqAt.shaped a=true /\ SeqAt.shaped b=true /\ d=.bool (PyData.eqv a b):=by
 unfold dEq at h
 split at h
 ·cases h
  refine ⟨by simp [SeqAt.shaped,PyData.canLay0,PyData.depth],by simp [SeqAt.shaped,PyData.canLay0,PyData.depth],?_⟩
  rw [PyData.eqv]; rfl
 ·split at h
  ·rename_i c
   rw [Bool.and_eq_true] at c
   cases h
   exact ⟨c.1,c.2,rfl⟩
  ·cases h
noncomputable def rEqH (K:PySem.W.Frag) (neg:Bool):R2:=fun x y H Q=>∃ d e,HD K H x d /\ HD K H y e /\ SeqAt.shaped d=true /\ SeqAt.shaped e=true /\ Q (.bl (if neg=true then !PyData.eqv d e else PyData.eqv d e)) H
section
variable {X:Cx}
theorem zbY {k:Nat} (hr:Room k X.A):OpR X (compareOp .Eq) (rEqH X.K false):=by
 intro pins s σ H x y v u Q I rx ry h
 obtain ⟨d,e,h1,h2,s1,s2,q⟩:=h
 obtain ⟨as,r1⟩:=h1.reads I rx (zau s1)
 obtain ⟨bs,r2⟩:=h2.reads I ry (zau s2)
 exact eq_dataH r1 r2 s1 s2 hr.units ⟨.bl _,H,I,rfl,q⟩
theorem zgy {k:Nat} (hr:Room k X.A):OpR X (compareOp .NotEq) (rEqH X.K true):=by
 intro pins s σ H x y v u Q I rx ry h
 obtain ⟨d,e,h1,h2,s1,s2,q⟩:=h
 obtain ⟨as,r1⟩:=h1.reads I rx (zau s1)
 obtain ⟨bs,r2⟩:=h2.reads I ry (zau s2)
 exact ne_dataH r1 r2 s1 s2 hr.units ⟨.bl _,H,I,rfl,q⟩
end
theorem zbQ {K:PySem.W.Frag}:Imp2 K (rEqH K false) dEq:=by
 intro A H x y dx dy d Q al hx hy e q
 obtain ⟨a,b,rfl⟩:=zj9 e
 exact ⟨dx,dy,hx.isD,hy.isD,a,b,q _ H (Same.refl H) (.bl _)⟩
theorem zge {K:PySem.W.Frag}:Imp2 K (rEqH K true) dNe:=by
 intro A H x y dx dy d Q al hx hy e q
 obtain ⟨c,e1,e2⟩:=bind1 e
 obtain ⟨a,b,rfl⟩:=zj9 e1
 cases e2
 exact ⟨dx,dy,hx.isD,hy.isD,a,b,q _ H (Same.refl H) (.bl _)⟩
noncomputable def rCatR (K:PySem.W.Frag):R2:=fun x y H Q=>∃ l b xs zs,x=.ref l /\ y=.ref b /\ LsD K H l xs /\ LsD K H b zs /\ xs.length + zs.length<=sizeLine /\ ∀ p,H p=none->Q (.ref p) (upd H p (.lst (xs ++ zs)))
theorem zfZ {X:Cx}:OpR X (binaryOp .Add) (rCatR X.K):=by
 intro pins s σ H x y v u Q I rx ry h
 obtain ⟨l,b,xs,zs,rfl,rfl,hH,hB,hz,q⟩:=h
 cases rx
 cases ry
 obtain ⟨z,its,n,r,e⟩:=I.lsd hH
 obtain ⟨z2,its2,n2,r2,e2⟩:=I.lsd hB
 have hl:=r.length
 have hl2:=r2.length
 refine PySem.P.add_list e e2 ?_ (by rw [List.size_toArray,List.size_toArray]; omega)
 have ea:its.toArray ++ its2.toArray=(its ++ its2).toArray:=by simp
 rw [ea]
 exact ⟨.ref _,_,I.lnew (t':=s.toks) (r.append r2) (by rw [List.length_append]; omega),rfl,q _ I.fresh⟩
noncomputable def dCat:D->D->Option (List D)
 | .list a,.list b=>if a.length + b.length<=100000 then some (a ++ b) else none
 | _,_=>none
set_option tactic.hygienic true in
theorem zf8 {K:PySem.W.Frag}:Imp2N K (rCatR K) dCat:=by
 intro A H x y dx dy ds Q al hx hy e q
 unfold dCat at e
 split at e
 ·split at e
  ·rename_i hz
   cases e
   obtain ⟨l,xs,rfl,h1,h2⟩:=hx.list
   obtain ⟨b,zs,rfl,h3,h4⟩:=hy.list
   have:=h2.len
   have:=h4.len
   exact ⟨l,b,xs,zs,rfl,rfl,h1,h3,small (by omega),fun p hp=>q p _ hp (h2.app h4)⟩
  ·cases e
 ·cases e
noncomputable def dAdd:D->D->Option D
 | .int a,.int b=>some (.int (a + b))
 | .str a,.str b=>if a.length + b.length<=100000 then some (.str (a ++ b)) else none
 | .list a,.list b=>if a.length + b.length<=100000 then some (.list (a ++ b)) else none
 | .tuple a,.tuple b=>if a.length + b.length<=100000 /\ a≠[] then some (.tuple (a ++ b)) else none
 | _,_=>none
noncomputable def rAddU (K:PySem.W.Frag):R2:=fun x y H Q=>rI0 (fun i j=>.int (i + j)) x y H Q \/ (∃ i j,x=.str i /\ y=.str j /\ i.length + j.length<=sizeLine /\ Q (.str (i ++ j)) H) \/ rCatR K x y H Q \/ rCatT K x y H Q
theorem zpc {X:Cx}:OpR X (binaryOp .Add) (rAddU X.K):=zpS.or (zju.or (zfZ.or zo5))
theorem HD.newL {K:PySem.W.Frag} {A:List Addr} {H:Hp} {p:Addr} {ys:List V} {ds:List D} (al:Ls A H) (hp:H p=none) (h:HDs K (wo H A) ys ds):HD K (wo (upd H p (.lst ys)) A) (.ref p) (.list ds):=by
 rw [znN (al.free hp)]
 have hn:wo H A p=none:=by
  by_cases z:p∈A
  ·exact zes z
  ·rw [zam z]; exact hp
 exact .lst (.of z8) (h.same (z9 hn _))
theorem HD.newT {K:PySem.W.Frag} {A:List Addr} {H:Hp} {p:Addr} {ys:List V} {ds:List D} (al:Ls A H) (hp:H p=none) (h:HDs K (wo H A) ys ds):HD K (wo (upd H p (.tup ys)) A) (.ref p) (.tuple ds):=by
 rw [znN (al.free hp)]
 have hn:wo H A p=none:=by
  by_cases z:p∈A
  ·exact zes z
  ·rw [zam z]; exact hp
 exact .tup (.inl z8) (h.same (z9 hn _))
set_option tactic.hygienic true in
theorem zo8 {K:PySem.W.Frag}:Imp2 K (rAddU K) dAdd:=by
 intro A H x y dx dy d Q al hx hy e q
 unfold dAdd at e
 split at e
 ·cases e
  exact .inl ⟨_,_,hx.int,hy.int,q _ H (Same.refl H) (.int _)⟩
 ·split at e
  ·cases e
   exact .inr (.inl ⟨_,_,hx.str,hy.str,small (by assumption),q _ H (Same.refl H) (.str _)⟩)
  ·cases e
 ·split at e
  ·rename_i hz
   cases e
   refine .inr (.inr (.inl (zf8 (K:=K) A H x y _ _ _ Q al hx hy (show (if _ then some _ else none)=some _ from if_pos hz) fun p ys hp h=>?_)))
   exact q _ _ (z9 hp _) (HD.newL al hp h)
  ·cases e
 ·split at e
  ·rename_i hz
   cases e
   have hx':=hx.fz
   obtain ⟨a,xs,rfl,h1,h2⟩:=hx.tuple
   obtain ⟨b,zs,rfl,h3,h4⟩:=hy.tuple
   have l2:=h2.len
   have l4:=h4.len
   refine .inr (.inr (.inr ⟨a,b,xs,zs,rfl,rfl,h1,h3,?_,small (by omega),fun z=>?_,fun z p hp=>?_⟩))
   ·intro z; subst z; cases h2; exact hz.2 rfl
   ·subst z; cases h4
    rw [List.append_nil] at q
    exact q _ H (Same.refl H) hx'
   ·exact q _ _ (z9 hp _) (HD.newT al hp (h2.app h4))
  ·cases e
 ·cases e
noncomputable def gRepN (a:DS->Option (List D)) (b:DS->Option D):DS->Option (List D):=fun δ=>(a δ).bind fun ds=>(b δ).bind fun y=>match y with
 | .int k=>if k < 2 ^ 62 /\ -(2 ^ 62) < k /\ ds.length * k.toNat<=100000 then some (List.replicate k.toNat ds).flatten else none
 | _=>none
set_option tactic.hygienic true in
theorem zhC {X:Cx} {O:List Nat} {a b:Expr} {pos:Pos} {ga:DS->Option (List D)} {gb:DS->Option D} (ha:PE X a (tN X.K O ga)) (hb:PE X b (tSh X.K O gb)):PE X (.BinOp a .Mult b pos) (tN X.K O (gRepN ga gb)):=(zo1 zqp ha hb).mono fun σ H Q hh=>hh.e fun U A0 δ d R ed q=>by
 obtain ⟨x,y,ex,ey,ef⟩:=bind2 ed
 cases y with
 | int k=>
   simp only at ef
   split at ef
   ·rename_i hz
    cases ef
    refine ⟨U,A0,δ,x,R,ex,fun r ys H1 s1 hr h1 h2=>⟨U,A0,δ,_,R.same s1,ey,fun v2 H2 s2 h3=>?_⟩⟩
    have hl:=h2.len
    refine ⟨r,k,ys,rfl,h3.int,s2 _ _ h1,by omega,by omega,small (by rw [hl]; exact hz.2.2),fun p hp=>zjC (s1.trans s2) q p _ hp ?_⟩
    exact HDs.rep (h2.same ((zd1 fun a ha=>List.mem_cons_of_mem _ ha).trans (zav s2))) _
   ·cases ef
 | _=>cases ef
noncomputable def dIx:D->D->Option D
 | .list ds,.int i=>atI ds i
 | .tuple ds,.int i=>atI ds i
 | .str z,.int i=>if z.length<=100000 then (atI z.cps.toList i).map fun c=>.str ⟨#[c]⟩ else none
 | _,_=>none
theorem HDs.atI {K:PySem.W.Frag} {H:Hp} {xs:List V} {ds:List D} {i:Int} {d:D} (h:HDs K H xs ds) (e:atI ds i=some d):∃ v,L2.atI xs i=some v /\ HD K H v d:=by
 unfold L2.atI at e ⊢
 obtain ⟨j,e1,e2⟩:=bind1 e
 rw [h.len,e1]
 obtain ⟨x,hx,q⟩:=h.get e2
 exact ⟨x,hx,q⟩
set_option tactic.hygienic true in
theorem zqh {K:PySem.W.Frag}:Imp2 K (rIx K) dIx:=by
 intro A H x y dx dy d Q al hx hy e q
 unfold dIx at e
 split at e
 ·obtain ⟨l,xs,rfl,h1,h2⟩:=hx.list
  obtain ⟨v,e1,e2⟩:=h2.atI e
  exact .inl ⟨l,xs,_,v,rfl,hy.int,h1.sq,e1,q _ H (Same.refl H) e2⟩
 ·obtain ⟨l,xs,rfl,h1,h2⟩:=hx.tuple
  obtain ⟨v,e1,e2⟩:=h2.atI e
  exact .inr (.inl ⟨l,xs,_,v,rfl,hy.int,h1,e1,q _ H (Same.refl H) e2⟩)
 ·split at e
  ·rename_i z i hz
   cases ec:L2.atI z.cps.toList i with
   | none=>rw [ec] at e; cases e
   | some c=>
     rw [ec] at e; cases e
     exact .inr (.inr ⟨z,i,c,hx.str,hy.int,small hz,ec,q _ H (Same.refl H) (.str _)⟩)
  ·cases e
 ·cases e
section
variable {X:Cx} {O:List Nat} {a b:Expr} {ga gb:DS->Option D} {pos:Pos}
theorem zz (ha:PE X a (tSh X.K O ga)) (hb:PE X b (tSh X.K O gb)) (hs:PlainIx b:=by exact fun _ _=>rfl):PE X (.Subscript a b pos) (tE X.K O (g2 dIx ga gb)):=(zqW zpK ha hb hs).mono fun _ _ _=>zmq zqh
end
noncomputable def g1 (f:D->Option D) (a:DS->Option D):DS->Option D:=fun δ=>(a δ).bind f
noncomputable def dNeg:D->Option D
 | .int a=>some (.int (-a))
 | _=>none
section
variable {X:Cx} {O:List Nat} {a b c:Expr} {ga gb:DS->Option D} {pos:Pos}
theorem zd2 (ha:PE X a (tSh X.K O ga)):PE X (.UnaryOp .USub a pos) (tE X.K O (g1 dNeg ga)):=(zqT zqf ha).mono fun σ H Q hh=>hh.e fun U A0 δ d R ed q=>by
 obtain ⟨x,e1,e2⟩:=bind1 ed
 cases x with
 | int i=>cases e2; exact ⟨U,A0,δ,_,R,e1,fun v H' s h=>⟨i,h.int,q _ H' s (.int _)⟩⟩
 | _=>cases e2
noncomputable def gAndV (a b:DS->Option D):DS->Option D:=fun δ=>(gB a δ).bind fun x=>if x=true then b δ else some (.bool false)
noncomputable def gOrV (a b:DS->Option D):DS->Option D:=fun δ=>(gB a δ).bind fun x=>if x=true then some (.bool true) else b δ
theorem zkr {g:DS->Option D} {δ:DS} {b:Bool} (h:gB g δ=some b):g δ=some (.bool b):=by
 obtain ⟨d,e1,e2⟩:=bind1 h
 cases d with
 | bool c=>cases e2; exact e1
 | _=>cases e2
theorem znK {rest:List Expr} (ha:PE X a (tE X.K O ga)) (hb:PE X (.BoolOp .And (b :: rest) pos) (tE X.K O gb)):PE X (.BoolOp .And (a :: b :: rest) pos) (tE X.K O (gAndV ga gb)):=(zqH ha hb).mono fun σ H Q hh=>hh.e fun U A0 δ d R ed q=>by
 obtain ⟨x,e1,e2⟩:=bind1 ed
 refine ⟨U,A0,δ,_,R,zkr e1,fun v H' s h=>?_⟩
 cases h
 refine ⟨x,rfl,?_⟩
 cases x with
 | true=>rw [if_pos rfl] at e2 ⊢; exact ⟨U,A0,δ,d,R.same s,e2,fun v H2 s2 h2=>q v H2 (s.trans s2) h2⟩
 | false=>rw [if_neg Bool.false_ne_true] at e2 ⊢; cases e2; exact q _ H' s (.bl _)
theorem zoQ {rest:List Expr} (ha:PE X a (tE X.K O ga)) (hb:PE X (.BoolOp .Or (b :: rest) pos) (tE X.K O gb)):PE X (.BoolOp .Or (a :: b :: rest) pos) (tE X.K O (gOrV ga gb)):=(zqO ha hb).mono fun σ H Q hh=>hh.e fun U A0 δ d R ed q=>by
 obtain ⟨x,e1,e2⟩:=bind1 ed
 refine ⟨U,A0,δ,_,R,zkr e1,fun v H' s h=>?_⟩
 cases h
 refine ⟨x,rfl,?_⟩
 cases x with
 | true=>rw [if_pos rfl] at e2 ⊢; cases e2; exact q _ H' s (.bl _)
 | false=>rw [if_neg Bool.false_ne_true] at e2 ⊢; exact ⟨U,A0,δ,d,R.same s,e2,fun v H2 s2 h2=>q v H2 (s.trans s2) h2⟩
noncomputable def gAnd (a b:DS->Option Bool):DS->Option Bool:=fun δ=>(a δ).bind fun x=>if x=true then b δ else some false
noncomputable def gOr (a b:DS->Option Bool):DS->Option Bool:=fun δ=>(a δ).bind fun x=>if x=true then some true else b δ
noncomputable def gNot (a:DS->Option Bool):DS->Option Bool:=fun δ=>(a δ).map fun x=> !x
variable {ta tb:DS->Option Bool} {rest:List Expr}
theorem zh5 (ha:PT X a (tT X.K O ta)) (hb:PW X (.BoolOp .And (b :: rest) pos) (tT X.K O tb)):PW X (.BoolOp .And (a :: b :: rest) pos) (tT X.K O (gAnd ta tb)):=(zqB ha hb).mono fun σ H Q hh=>hh.e fun U A0 δ d R ed q=>by
 obtain ⟨x,e1,e2⟩:=bind1 ed
 refine ⟨U,A0,δ,_,R,e1,fun H' s=>?_⟩
 cases x with
 | true=>rw [if_pos rfl] at e2 ⊢; exact ⟨U,A0,δ,d,R.same s,e2,fun H2 s2=>q H2 (s.trans s2)⟩
 | false=>rw [if_neg Bool.false_ne_true] at e2 ⊢; cases e2; exact q H' s
theorem zp8 (ha:PT X a (tT X.K O ta)) (hb:PW X (.BoolOp .Or (b :: rest) pos) (tT X.K O tb)):PW X (.BoolOp .Or (a :: b :: rest) pos) (tT X.K O (gOr ta tb)):=(zq0 ha hb).mono fun σ H Q hh=>hh.e fun U A0 δ d R ed q=>by
 obtain ⟨x,e1,e2⟩:=bind1 ed
 refine ⟨U,A0,δ,_,R,e1,fun H' s=>?_⟩
 cases x with
 | true=>rw [if_pos rfl] at e2 ⊢; cases e2; exact q H' s
 | false=>rw [if_neg Bool.false_ne_true] at e2 ⊢; exact ⟨U,A0,δ,d,R.same s,e2,fun H2 s2=>q H2 (s.trans s2)⟩
theorem zdU (ha:PT X a (tT X.K O ta)):PT X (.UnaryOp .Not a pos) (tT X.K O (gNot ta)):=(zqg ha).mono fun σ H Q hh=>hh.e fun U A0 δ d R ed q=>by
 unfold gNot at ed
 cases e:ta δ with
 | none=>rw [e] at ed; cases ed
 | some x=>rw [e] at ed; cases ed; exact ⟨U,A0,δ,x,R,e,fun H' s=>q H' s⟩
noncomputable def dTru:D->Option Bool
 | .none=>some false
 | .bool b=>some b
 | .int i=>some (i != 0)
 | .str x=>if x.length<=100000 then some ((x.length:Int) != 0) else none
 | .list l=>some (!l.isEmpty)
 | .tuple l=>some (!l.isEmpty)
 | _=>none
noncomputable def gTru (g:DS->Option D):DS->Option Bool:=fun δ=>(g δ).bind dTru
theorem zfk {K:PySem.W.Frag} {H:Hp} {xs:List V} {ds:List D} (h:HDs K H xs ds):xs.isEmpty=ds.isEmpty:=by cases h <;> rfl
theorem zcA (ha:PE X a (tSh X.K O ga)) (he:∀ whole,isTrue a X.env whole=(do let v <- whole; standAt a.pos; holding [v] (truthy v)):=by exact fun _=>rfl):PT X a (tT X.K O (gTru ga)):=(zmI ha he).mono fun σ H Q hh=>hh.e fun U A0 δ k R ed q=>by
 obtain ⟨d,e1,e2⟩:=bind1 ed
 refine ⟨U,A0,δ,d,R,e1,fun v H' s h=>⟨k,?_,q H' s⟩⟩
 cases d with
 | none=>cases e2; rw [h.non]; exact rfl
 | bool b=>cases e2; rw [h.bool]; exact rfl
 | int i=>cases e2; rw [h.int]; exact rfl
 | str x=>
   rw [h.str]
   have e3:(if x.length<=100000 then some ((x.length:Int) != 0) else none)=some k:=e2
   split at e3
   ·cases e3; exact ⟨small (by assumption),rfl⟩
   ·cases e3
 | list l=>
   cases e2
   obtain ⟨p,xs,rfl,h1,h2⟩:=h.list
   exact .inl ⟨xs,h1.sq,by rw [zfk h2]⟩
 | tuple l=>
   cases e2
   obtain ⟨p,xs,rfl,h1,h2⟩:=h.tuple
   exact .inr (.inl ⟨xs,h1,by rw [zfk h2]⟩)
 | dict _=>cases e2
end
noncomputable def gNilA:DS->Option (List D):=fun _=>some []
noncomputable def gConsA (a:DS->Option D) (r:DS->Option (List D)):DS->Option (List D):=fun δ=>(a δ).bind fun x=>(r δ).bind fun xs=>some (x :: xs)
noncomputable def gTupD (r:DS->Option (List D)):DS->Option D:=fun δ=>(r δ).bind fun xs=>if xs.length<=100000 then some (.tuple xs) else none
noncomputable def gLstN (r:DS->Option (List D)):DS->Option (List D):=fun δ=>(r δ).bind fun xs=>if xs.length<=100000 then some xs else none
section
variable {X:Cx} {O:List Nat} {e:Expr} {es:List Expr} {ga:DS->Option D} {gr:DS->Option (List D)} {pos:Pos}
theorem zf:PA X [] (tAs X.K O gNilA):=za2.mono fun σ H Q hh=>hh.e fun U A0 δ d R ed q=>by cases ed; exact q [] H (Same.refl H) .nil
theorem za (ha:PE X e (tE X.K O ga)) (hr:PA X es (tAs X.K O gr)) (hs:starEach (e :: es) X.env=(false,eval e X.env) :: starEach es X.env:=by rfl):PA X (e :: es) (tAs X.K O (gConsA ga gr)):=(zZ ha hr hs).mono fun σ H Q hh=>hh.e fun U A0 δ ds R ed q=>by
 obtain ⟨x,xs,e1,e2,e3⟩:=bind2 ed
 cases e3
 exact ⟨U,A0,δ,x,R,e1,fun v H1 s1 h1=>⟨U,A0,δ,xs,R.same s1,e2,fun vs H2 s2 h2=>q _ H2 (s1.trans s2) (.cons (h1.same (zav s2)) h2)⟩⟩
theorem zq:PA X [] (tAsh X.K O gNilA):=za2.mono fun σ H Q hh=>hh.e fun U A0 δ d R ed q=>by cases ed; exact q [] H (Same.refl H) .nil
theorem zk (ha:PE X e (tSh X.K O ga)) (hr:PA X es (tAsh X.K O gr)) (hs:starEach (e :: es) X.env=(false,eval e X.env) :: starEach es X.env:=by rfl):PA X (e :: es) (tAsh X.K O (gConsA ga gr)):=(zZ ha hr hs).mono fun σ H Q hh=>hh.e fun U A0 δ ds R ed q=>by
 obtain ⟨x,xs,e1,e2,e3⟩:=bind2 ed
 cases e3
 exact ⟨U,A0,δ,x,R,e1,fun v H1 s1 h1=>⟨U,A0,δ,xs,R.same s1,e2,fun vs H2 s2 h2=>q _ H2 (s1.trans s2) (.cons (h1.same s2) h2)⟩⟩
set_option tactic.hygienic true in
theorem zah {x1} (h:PA X es (tAs X.K O gr)):PE X (.Tuple es x1 pos) (tE X.K O (gTupD gr)):=(znp h).mono fun σ H Q hh=>hh.e fun U A0 δ d R ed q=>by
 obtain ⟨xs,e1,e2⟩:=bind1 ed
 split at e2
 ·rename_i hz
  cases e2
  refine ⟨U,A0,δ,xs,R,e1,fun vs H' s h=>⟨by have:=h.len; exact small (by omega),fun p hp=>q _ _ (s.trans (z9 hp _)) (HD.newT (R.same s).al hp h)⟩⟩
 ·cases e2
set_option tactic.hygienic true in
theorem zaw (h:PA X es (tAs X.K O gr)):PE X (.List es pos) (tN X.K O (gLstN gr)):=(zqt h).mono fun σ H Q hh=>hh.e fun U A0 δ d R ed q=>by
 obtain ⟨xs,e1,e2⟩:=bind1 ed
 split at e2
 ·rename_i hz
  cases e2
  refine ⟨U,A0,δ,d,R,e1,fun vs H' s h=>⟨by have:=h.len; exact small (by omega),fun p hp=>zjC s q p vs hp h⟩⟩
 ·cases e2
end
noncomputable def spD (K:PySem.W.Frag) (n:Nat) (G:List D->Option D):Sp:=fun vs H Q _=>vs.length=n /\ ∃ A ds d,Ls A H /\ HDs K (wo H A) vs ds /\ G ds=some d /\ ∀ v H',Same H H'->HD K (wo H' A) v d->Q v H'
noncomputable def spN (K:PySem.W.Frag) (n:Nat) (G:List D->Option (List D)):Sp:=fun vs H Q _=>vs.length=n /\ ∃ A ds d,Ls A H /\ HDs K (wo H A) vs ds /\ G ds=some d /\
 ∀ r ys H',Same H H'->H r=none->H' r=some (.lst ys)->HDs K (wo H' (r :: A)) ys d->Q (.ref r) H'
noncomputable def gCall (G:List D->Option D) (n:Nat) (g:DS->Option (List D)):DS->Option D:=fun δ=>(g δ).bind fun ds=>if ds.length=n then G ds else none
noncomputable def gCallN (G:List D->Option (List D)) (n:Nat) (g:DS->Option (List D)):DS->Option (List D):=fun δ=>(g δ).bind fun ds=>if ds.length=n then G ds else none
section
variable {X:Cx} {O:List Nat} {e:Expr} {es:List Expr} {gr:DS->Option (List D)} {pos p:Pos} {n k kk:Nat} {x:Str} {ps:List Str}
set_option tactic.hygienic true in
theorem zt {G:List D->Option D} (F:Dn X.prog X.w X.K X.mg X.base k x ps (spD X.K n G)) (hr:Room kk X.A) (hk:k<=kk) (ha:PA X (e :: es) (tAs X.K O gr)) (hg:Gl X x:=by rfl)
  (hdb:(x == ("__debug__":Str))=false:=by decide) (he:starEach (e :: es) X.env=(false,eval e X.env) :: starEach es X.env:=by rfl) (hpl:(backTo pos (starEach es X.env)).any (·.1)=false:=by rfl):
  PE X (.Call (.Name x p) (e :: es) [] pos) (tE X.K O (gCall G n gr)):=(zp5 F hr hk ha hg hdb he hpl).mono fun σ H Q hh=>hh.e fun U A0 δ d R ed q=>by
 obtain ⟨ds,e1,e2⟩:=bind1 ed
 split at e2
 ·rename_i hn
  refine ⟨U,A0,δ,ds,R,e1,fun vs H' s h=>?_⟩
  show spD X.K n G (vs ++ []) H' Q E0
  rw [List.append_nil]
  exact ⟨by rw [h.len]; exact hn,U ++ A0,ds,d,(R.same s).al,h,e2,fun v H2 s2 h2=>q v H2 (s.trans s2) h2⟩
 ·cases e2
set_option tactic.hygienic true in
theorem zF {G:List D->Option (List D)} (F:Dn X.prog X.w X.K X.mg X.base k x ps (spN X.K n G)) (hr:Room kk X.A) (hk:k<=kk) (ha:PA X (e :: es) (tAs X.K O gr)) (hg:Gl X x:=by rfl)
  (hdb:(x == ("__debug__":Str))=false:=by decide) (he:starEach (e :: es) X.env=(false,eval e X.env) :: starEach es X.env:=by rfl) (hpl:(backTo pos (starEach es X.env)).any (·.1)=false:=by rfl):
  PE X (.Call (.Name x p) (e :: es) [] pos) (tN X.K O (gCallN G n gr)):=(zp5 F hr hk ha hg hdb he hpl).mono fun σ H Q hh=>hh.e fun U A0 δ d R ed q=>by
 obtain ⟨ds,e1,e2⟩:=bind1 ed
 split at e2
 ·rename_i hn
  refine ⟨U,A0,δ,ds,R,e1,fun vs H' s h=>?_⟩
  show spN X.K n G (vs ++ []) H' Q E0
  rw [List.append_nil]
  exact ⟨by rw [h.len]; exact hn,U ++ A0,ds,d,(R.same s).al,h,e2,fun r ys H2 s2 h0 h1 h2=>q r ys H2 (s.trans s2) (s.free h0) h1 h2⟩
 ·cases e2
end
noncomputable def ImpC (K:PySem.W.Frag) (r:List V->Hp->VK->Prop) (f:List D->Option D):Prop:=∀ (A:List Addr) (H:Hp) (vs:List V) (ds:List D) (d:D) (Q:VK),Ls A H->ShDs K A H vs ds->f ds=some d->(∀ v H',Same H H'->HD K (wo H' A) v d->Q v H')->r vs H Q
noncomputable def ImpCN (K:PySem.W.Frag) (r:List V->Hp->VK->Prop) (f:List D->Option (List D)):Prop:=∀ (A:List Addr) (H:Hp) (vs:List V) (ds:List D) (d:List D) (Q:VK),Ls A H->ShDs K A H vs ds->f ds=some d->
 (∀ p ys,H p=none->HDs K (wo H A) ys d->Q (.ref p) (upd H p (.lst ys)))->r vs H Q
noncomputable def gB1 (f:List D->Option D) (g:DS->Option (List D)):DS->Option D:=fun δ=>(g δ).bind f
noncomputable def gB1N (f:List D->Option (List D)) (g:DS->Option (List D)):DS->Option (List D):=fun δ=>(g δ).bind f
section
variable {X:Cx} {O:List Nat} {e:Expr} {es:List Expr} {gr:DS->Option (List D)} {pos p:Pos} {x:Str} {r:List V->Hp->VK->Prop} {id T:String}
theorem zpz {K:PySem.W.Frag} {f:List D->Option D} (imp:ImpC K r f) {σ:St} {H:Hp} {Q:VK}:tE K O (gB1 f gr) σ H Q->tCB r (tAsh K O gr) σ H Q:=fun ⟨U,A0,δ,d,R,ed,q⟩=>by
 obtain ⟨ds,e1,e2⟩:=bind1 ed
 exact ⟨U,A0,δ,ds,R,e1,fun vs H' s h=>imp _ H' vs ds d Q (R.same s).al h e2 fun v H2 s2 h2=>q v H2 (s.trans s2) h2⟩
theorem zqR {K:PySem.W.Frag} {f:List D->Option (List D)} (imp:ImpCN K r f) {σ:St} {H:Hp} {Q:VK}:tN K O (gB1N f gr) σ H Q->tCB r (tAsh K O gr) σ H Q:=fun ⟨U,A0,δ,d,R,ed,q⟩=>by
 obtain ⟨ds,e1,e2⟩:=bind1 ed
 exact ⟨U,A0,δ,ds,R,e1,fun vs H' s h=>imp _ H' vs ds d Q (R.same s).al h e2 (zjC s q)⟩
theorem zx {f:List D->Option D} (hc:CallR X (.builtin id) r) (imp:ImpC X.K r f) (hg:Gl X x) (hm:X.mg x=none) (hv:bootBuiltins x=some (.builtin id)) (ha:PA X (e :: es) (tAsh X.K O gr)) (hn:x≠"__name__":=by decide) (hdb:(x == ("__debug__":Str))=false:=by decide)
  (he:starEach (e :: es) X.env=(false,eval e X.env) :: starEach es X.env:=by rfl) (hpl:(backTo pos (starEach es X.env)).any (·.1)=false:=by rfl):PE X (.Call (.Name x p) (e :: es) [] pos) (tE X.K O (gB1 f gr)):=
 (zdr hc hg hm hv ha hn hdb he hpl).mono fun _ _ _=>zpz imp
theorem zbV {f:List D->Option D} (hc:CallR X (.type T) r) (imp:ImpC X.K r f) (hg:Gl X x) (hm:X.mg x=none) (hv:bootBuiltins x=some (.type T)) (ha:PA X (e :: es) (tAsh X.K O gr)) (hn:x≠"__name__":=by decide) (hdb:(x == ("__debug__":Str))=false:=by decide)
  (he:starEach (e :: es) X.env=(false,eval e X.env) :: starEach es X.env:=by rfl) (hpl:(backTo pos (starEach es X.env)).any (·.1)=false:=by rfl):PE X (.Call (.Name x p) (e :: es) [] pos) (tE X.K O (gB1 f gr)):=
 (zeZ hc hg hm hv ha hn hdb he hpl).mono fun _ _ _=>zpz imp
theorem zdI {f:List D->Option (List D)} (hc:CallR X (.type T) r) (imp:ImpCN X.K r f) (hg:Gl X x) (hm:X.mg x=none) (hv:bootBuiltins x=some (.type T)) (ha:PA X (e :: es) (tAsh X.K O gr)) (hn:x≠"__name__":=by decide) (hdb:(x == ("__debug__":Str))=false:=by decide)
  (he:starEach (e :: es) X.env=(false,eval e X.env) :: starEach es X.env:=by rfl) (hpl:(backTo pos (starEach es X.env)).any (·.1)=false:=by rfl):PE X (.Call (.Name x p) (e :: es) [] pos) (tN X.K O (gB1N f gr)):=
 (zeZ hc hg hm hv ha hn hdb he hpl).mono fun _ _ _=>zqR imp
end
theorem sh1 {K:PySem.W.Frag} {A:List Addr} {H:Hp} {vs:List V} {d:D} (h:ShDs K A H vs [d]):∃ v,vs=[v] /\ ShD K A H v d:=by
 unfold ShDs at h
 cases h with
 | cons a t=>cases t; exact ⟨_,rfl,a⟩
theorem sh2 {K:PySem.W.Frag} {A:List Addr} {H:Hp} {vs:List V} {d e:D} (h:ShDs K A H vs [d,e]):∃ v u,vs=[v,u] /\ ShD K A H v d /\ ShD K A H u e:=by
 unfold ShDs at h
 cases h with
 | cons a t=>cases t with
   | cons b t=>cases t; exact ⟨_,_,rfl,a,b⟩
noncomputable def dLen:List D->Option D
 | [.list l]=>some (.int l.length)
 | [.tuple l]=>some (.int l.length)
 | [.str z]=>if z.length<=100000 then some (.int z.length) else none
 | _=>none
theorem zy {X:Cx}:CallR X (.builtin "len") (fun xs H Q=>(∃ p ys,xs=[.ref p] /\ (SqL X.K H p ys \/ SqT X.K H p ys) /\ Q (.int ys.length) H) \/ ∃ z,xs=[.str z] /\ z.length<=sizeLine /\ Q (.int z.length) H):=zgB.or zgf
theorem zN {K:PySem.W.Frag}:ImpC K (fun xs H Q=>(∃ p ys,xs=[.ref p] /\ (SqL K H p ys \/ SqT K H p ys) /\ Q (.int ys.length) H) \/ ∃ z,xs=[.str z] /\ z.length<=sizeLine /\ Q (.int z.length) H) dLen:=by
 intro A H vs ds d Q al h e q
 unfold dLen at e
 split at e
 ·cases e
  obtain ⟨v,rfl,h1⟩:=sh1 h
  clear h
  have h:=h1
  obtain ⟨p,xs,rfl,h1,h2⟩:=h.list
  refine .inl ⟨p,xs,rfl,.inl h1.sq,?_⟩
  rw [h2.len]
  exact q _ H (Same.refl H) (.int _)
 ·cases e
  obtain ⟨v,rfl,h1⟩:=sh1 h
  clear h
  have h:=h1
  obtain ⟨p,xs,rfl,h1,h2⟩:=h.tuple
  refine .inl ⟨p,xs,rfl,.inr h1,?_⟩
  rw [h2.len]
  exact q _ H (Same.refl H) (.int _)
 ·split at e
  ·cases e
   obtain ⟨v,rfl,h1⟩:=sh1 h
   exact .inr ⟨_,by rw [h1.str],small (by assumption),q _ H (Same.refl H) (.int _)⟩
  ·cases e
 ·cases e
noncomputable def dAbs:List D->Option D
 | [.int i]=>some (.int (if i < 0 then -i else i))
 | _=>none
theorem zew {K:PySem.W.Frag}:ImpC K (fun xs H Q=>∃ i,xs=[.int i] /\ Q (.int (if i < 0 then -i else i)) H) dAbs:=by
 intro A H vs ds d Q al h e q
 unfold dAbs at e
 split at e
 ·cases e
  obtain ⟨v,rfl,h1⟩:=sh1 h
  clear h
  have h:=h1
  exact ⟨_,by rw [h.int],q _ H (Same.refl H) (.int _)⟩
 ·cases e
noncomputable def dMax2:List D->Option D
 | [.int i,.int j]=>some (.int (if j > i then j else i))
 | _=>none
noncomputable def dMin2:List D->Option D
 | [.int i,.int j]=>some (.int (if j < i then j else i))
 | _=>none
theorem zlS {K:PySem.W.Frag}:ImpC K (fun xs H Q=>∃ i j,xs=[.int i,.int j] /\ Q (.int (if j > i then j else i)) H) dMax2:=by
 intro A H vs ds d Q al h e q
 unfold dMax2 at e
 split at e
 ·cases e
  obtain ⟨v,u,rfl,h1,h'⟩:=sh2 h
  clear h
  have h:=h1
  exact ⟨_,_,by rw [h.int,h'.int],q _ H (Same.refl H) (.int _)⟩
 ·cases e
theorem zoZ {K:PySem.W.Frag}:ImpC K (fun xs H Q=>∃ i j,xs=[.int i,.int j] /\ Q (.int (if j < i then j else i)) H) dMin2:=by
 intro A H vs ds d Q al h e q
 unfold dMin2 at e
 split at e
 ·cases e
  obtain ⟨v,u,rfl,h1,h'⟩:=sh2 h
  clear h
  have h:=h1
  exact ⟨_,_,by rw [h.int,h'.int],q _ H (Same.refl H) (.int _)⟩
 ·cases e
noncomputable def dInt:List D->Option D
 | [.int i]=>some (.int i)
 | [.bool k]=>some (.int (if k then 1 else 0))
 | _=>none
theorem zem {K:PySem.W.Frag}:ImpC K (fun xs H Q=>(∃ i,xs=[.int i] /\ Q (.int i) H) \/ ∃ k,xs=[.bl k] /\ Q (.int (if k then 1 else 0)) H) dInt:=by
 intro A H vs ds d Q al h e q
 unfold dInt at e
 split at e
 ·cases e
  obtain ⟨v,rfl,h1⟩:=sh1 h
  clear h
  have h:=h1
  exact .inl ⟨_,by rw [h.int],q _ H (Same.refl H) (.int _)⟩
 ·cases e
  obtain ⟨v,rfl,h1⟩:=sh1 h
  clear h
  have h:=h1
  exact .inr ⟨_,by rw [h.bool],q _ H (Same.refl H) (.int _)⟩
 ·cases e
noncomputable def dListN:List D->Option (List D)
 | [.list l]=>some l
 | [.tuple l]=>some l
 | _=>none
theorem zfJ {K:PySem.W.Frag}:ImpCN K (fun xs H Q=>∃ p ys,xs=[.ref p] /\ (SqL K H p ys \/ SqT K H p ys) /\ ∀ l,H l=none->Q (.ref l) (upd H l (.lst ys))) dListN:=by
 intro A H vs ds d Q al h e q
 unfold dListN at e
 split at e
 ·cases e
  obtain ⟨v,rfl,h1⟩:=sh1 h
  clear h
  have h:=h1
  obtain ⟨p,xs,rfl,h1,h2⟩:=h.list
  exact ⟨p,xs,rfl,.inl h1.sq,fun l hl=>q l xs hl h2⟩
 ·cases e
  obtain ⟨v,rfl,h1⟩:=sh1 h
  clear h
  have h:=h1
  obtain ⟨p,xs,rfl,h1,h2⟩:=h.tuple
  exact ⟨p,xs,rfl,.inr h1,fun l hl=>q l xs hl h2⟩
 ·cases e
noncomputable def dTupleOf:List D->Option D
 | [.list l]=>some (.tuple l)
 | [.tuple l]=>some (.tuple l)
 | _=>none
theorem zgl {K:PySem.W.Frag}:ImpC K (fun xs H Q=>∃ p ys,xs=[.ref p] /\ ((SqL K H p ys /\ ∀ l,H l=none->Q (.ref l) (upd H l (.tup ys))) \/ (SqT K H p ys /\ Q (.ref p) H))) dTupleOf:=by
 intro A H vs ds d Q al h e q
 unfold dTupleOf at e
 split at e
 ·cases e
  obtain ⟨v,rfl,h1⟩:=sh1 h
  clear h
  have h:=h1
  obtain ⟨p,xs,rfl,h1,h2⟩:=h.list
  exact ⟨p,xs,rfl,.inl ⟨h1.sq,fun l hl=>q _ _ (z9 hl _) (HD.newT al hl h2)⟩⟩
 ·cases e
  obtain ⟨v,rfl,h1⟩:=sh1 h
  clear h
  have h:=h1
  have h':=h.fz
  obtain ⟨p,xs,rfl,h1,h2⟩:=h.tuple
  exact ⟨p,xs,rfl,.inr ⟨h1,q _ H (Same.refl H) h'⟩⟩
 ·cases e
noncomputable def tyName:D->String
 | .none=>"NoneType"
 | .bool _=>"bool"
 | .int _=>"int"
 | .str _=>"str"
 | .list _=>"list"
 | .tuple _=>"tuple"
 | .dict _=>"dict"
end L2
namespace L2
open PySem PySem.Spec PyProof.Rows
theorem zpN {K:PySem.W.Frag} {t n:String} {b:Bool} (h:(Value.type t == Value.type n)=false) (h2:PySem.W.kitMeta n=true) (h3:(fastBuiltinMro t).map (·.contains (Value.type n))=some b):PySem.W.kitOne K (.type t) (.type n)=some b:=by
 unfold PySem.W.kitOne PySem.W.kitCls
 rw [h,if_neg (by decide)]
 show (if PySem.W.kitMeta n=true then PySem.W.subIn K (.type t) (.type n) else none)=some b
 rw [if_pos h2]
 exact h3
noncomputable def isiNames:List String:=["int","bool","str","list","tuple","NoneType"]
noncomputable def dIsi (n:String):List D->Option D
 | [d]=>if tyName d∈isiNames /\ n∈isiNames then some (.bool (decide (tyName d=n) || (decide (tyName d="bool") && decide (n="int")))) else none
 | _=>none
theorem zoE {K:PySem.W.Frag} {t n:String} (ht:t∈isiNames) (hn:n∈isiNames):PySem.W.kitOne K (.type t) (.type n)=some (decide (t=n) || (decide (t="bool") && decide (n="int"))):=by
 by_cases h:t=n
 ·subst h
  rw [zmS]; simp
 ·have all:∀ t∈isiNames,∀ n∈isiNames,t≠n->(Value.type t == Value.type n)=false /\ PySem.W.kitMeta n=true /\ (fastBuiltinMro t).map (·.contains (Value.type n))=some (decide (t=n) || (decide (t="bool") && decide (n="int"))):=by decide +kernel
  obtain ⟨h1,h2,h3⟩:=all t ht n hn h
  exact zpN h1 h2 h3
theorem ShD.ty {K:PySem.W.Frag} {A:List Addr} {H:Hp} {v:V} {d:D} (h:ShD K A H v d) (hn:tyName d∈isiNames):TyW K H v (tyName d):=by
 cases d with
 | none=>rw [h.non]; exact .inl .non
 | bool b=>rw [h.bool]; exact .inl (.bl b)
 | int i=>rw [h.int]; exact .inl (.int i)
 | str x=>rw [h.str]; exact .inl (.str x)
 | list l=>obtain ⟨p,xs,rfl,h1,_⟩:=h.list; exact .inr (.inr ⟨p,xs,rfl,h1.sq,rfl⟩)
 | tuple l=>obtain ⟨p,xs,rfl,h1,_⟩:=h.tuple; exact .inr (.inl ⟨p,xs,rfl,h1,rfl⟩)
 | dict l=>simp [tyName,isiNames] at hn
section
variable {X:Cx} {O:List Nat} {e:Expr} {ga:DS->Option D} {pos p p2:Pos}
noncomputable def gIsi (n:String) (g:DS->Option D):DS->Option D:=fun δ=>(g δ).bind fun d=>dIsi n [d]
set_option tactic.hygienic true in
theorem znI {n:Str} (T:String) (hB:X.mg "isinstance"=none) (ha:PE X e (tSh X.K O ga)) (ht:PE X (.Name n p2) (tC (.ty T))) (hg:Gl X "isinstance":=by rfl)
  (he:starEach [e,.Name n p2] X.env=(false,eval e X.env) :: starEach [.Name n p2] X.env:=by rfl) (he2:starEach [.Name n p2] X.env=(false,eval (.Name n p2) X.env) :: starEach [] X.env:=by rfl) (hpl:(backTo pos (starEach [.Name n p2] X.env)).any (·.1)=false:=by rfl):
  PE X (.Call (.Name "isinstance" p) [e,.Name n p2] [] pos) (tE X.K O (gIsi T ga)):=
 (zdr zmL hg hB zcz (zZ ha (zZ ht za2 he2) he) (by decide) (by decide) he hpl).mono fun σ H Q hh=>hh.e fun U A0 δ d R ed q=>by
  obtain ⟨x,e1,e2⟩:=bind1 ed
  have e3:(if tyName x∈isiNames /\ T∈isiNames then some (PyData.bool (decide (tyName x=T) || (decide (tyName x="bool") && decide (T="int")))) else none)=some d:=e2
  split at e3
  ·rename_i hz
   cases e3
   refine ⟨U,A0,δ,x,R,e1,fun v H' s h=>?_⟩
   exact ⟨v,T,tyName x,_,rfl,h.ty hz.1,zoE hz.1 hz.2,q _ H' s (.bl _)⟩
  ·cases e3
end
noncomputable def gPart (g:DS->Option D):DS->Option (Option Int):=fun δ=>(g δ).bind fun | .int i=>some (some i) | _=>none
noncomputable def tOs (K:PySem.W.Frag) (O:List Nat) (g:DS->Option (Option Int)):TO:=fun σ H Q=>∃ U A0 δ d,Rel K O U A0 σ δ H /\ g δ=some d /\ ∀ H',Same H H'->Q d H'
theorem tOs.e {K:PySem.W.Frag} {O:List Nat} {g:DS->Option (Option Int)}  {σ:_} {H:_} {Q:_} {GG:Prop} (hh:tOs K O g σ H Q) (kk:∀ U A0 δ d,(Rel K O U A0 σ δ H)->(g δ=some d)->(∀ H',Same H H'->Q d H')->GG):GG:=by obtain ⟨U,A0,δ,d,x0,x1,x2⟩:=hh; exact kk U A0 δ d x0 x1 x2
noncomputable def cutD (xs:List D) (lo hi:Option Int):List D:=(xs.drop (HT.sIx xs.length 0 lo)).take (HT.sIx xs.length xs.length hi - HT.sIx xs.length 0 lo)
noncomputable def gSlL (a:DS->Option D) (lo hi:DS->Option (Option Int)):DS->Option (List D):=fun δ=>(a δ).bind fun x=>(lo δ).bind fun l=>(hi δ).bind fun h=>match x with
 | .list ds=>some (cutD ds l h)
 | _=>none
section
variable {X:Cx} {O:List Nat} {e:Expr} {lo hi:Option Expr} {ga:DS->Option D} {gl gh:DS->Option (Option Int)} {pos p2:Pos}
theorem ziF (h:PE X e (tSh X.K O ga)):PO X (some e) (tOs X.K O (gPart ga)):=(zo0 h).mono fun σ H Q hh=>hh.e fun U A0 δ d R ed q=>by
 obtain ⟨x,e1,e2⟩:=bind1 ed
 cases x with
 | int i=>cases e2; exact ⟨U,A0,δ,_,R,e1,fun v H' s h=>⟨i,h.int,q H' s⟩⟩
 | _=>cases e2
theorem zp1 (ha:PE X e (tSh X.K O ga)) (hl:PO X lo (tOs X.K O gl)) (hh:PO X hi (tOs X.K O gh)):PE X (.Subscript e (.Slice lo hi none p2) pos) (tN X.K O (gSlL ga gl gh)):=(zmz znY ha hl hh).mono fun σ H Q hh=>hh.e fun U A0 δ d R ed q=>by
 obtain ⟨x,e1,e2⟩:=bind1 ed
 obtain ⟨l,e3,e4⟩:=bind1 e2
 obtain ⟨h,e5,e6⟩:=bind1 e4
 cases x with
 | list ds=>
   cases e6
   refine ⟨U,A0,δ,_,R,e1,fun v H1 s1 h1=>⟨U,A0,δ,l,R.same s1,e3,fun H2 s2=>⟨U,A0,δ,h,R.same (s1.trans s2),e5,fun H3 s3=>?_⟩⟩⟩
   obtain ⟨p,xs,rfl,r1,r2⟩:=(h1.same (s2.trans s3)).list
   refine ⟨p,xs,rfl,r1.sq,fun r hr=>zjC ((s1.trans s2).trans s3) q r _ hr ?_⟩
   unfold cutV cutD
   rw [r2.len]
   exact (r2.dropD _).takeD _
 | _=>cases e6
end
noncomputable def gSeq (a b:DS->Option Res):DS->Option Res:=fun δ=>(a δ).bind fun | .nx δ'=>b δ' | r=>some r
noncomputable def gSkip:DS->Option Res:=fun δ=>some (.nx δ)
noncomputable def gIf (c:DS->Option Bool) (a b:DS->Option Res):DS->Option Res:=fun δ=>(c δ).bind fun x=>if x=true then a δ else b δ
noncomputable def gSet (i:Nat) (g:DS->Option D):DS->Option Res:=fun δ=>(g δ).bind fun d=>some (.nx (δ.set i (some d)))
noncomputable def gSetN (i:Nat) (g:DS->Option (List D)):DS->Option Res:=fun δ=>(g δ).bind fun d=>some (.nx (δ.set i (some (.list d))))
noncomputable def gRet (g:DS->Option D):DS->Option Res:=fun δ=>(g δ).bind fun d=>some (.rt d)
noncomputable def gDrop (g:DS->Option D):DS->Option Res:=fun δ=>(g δ).bind fun _=>some (.nx δ)
section
variable {X:Cx} {O:List Nat} {fr:Fr} {xk:Str->Hp->Prop} {st:Stmt} {rest a b:List Stmt} {ga gb:DS->Option Res} {gc:DS->Option Bool} {ge:DS->Option D} {gl:DS->Option (List D)} {e c:Expr} {pos:Pos}
theorem zh (h1:PS X st (tS X.K O fr ga)) (h2:PSs X rest (tS X.K O fr gb)):PSs X (st :: rest) (tS X.K O fr (gSeq ga gb)):=(znc h1 h2).mono fun E σ H hh=>hh.e fun H0 U A0 δ r R F ed P=>by
 obtain ⟨r1,e1,e2⟩:=bind1 ed
 cases r1 with
 | nx δ'=>exact ⟨H0,U,A0,δ,.nx δ',R,F,e1,fun U' σ' H' R' F'=>⟨H0,U',A0,δ',r,R',F',e2,P⟩⟩
 | rt d=>cases e2; exact ⟨H0,U,A0,δ,_,R,F,e1,P⟩
 | bk d=>cases e2; exact ⟨H0,U,A0,δ,_,R,F,e1,P⟩
 | ct d=>cases e2; exact ⟨H0,U,A0,δ,_,R,F,e1,P⟩
theorem zi (h1:PS X st (tS X.K O fr ga)):PSs X [st] (tS X.K O fr ga):=zoB h1
theorem zac:PSs X [] (tS X.K O fr gSkip):=zoY.mono fun E σ H hh=>hh.e fun H0 U A0 δ r R F ed P=>by cases ed; exact P U σ H R F
theorem zdu:PS X st (tS X.K O fr fun _=>none):=zm1.mono fun E σ H hh=>hh.e fun H0 U A0 δ r R F ed P=>by cases ed
theorem zaK (hc:PT X c (tT X.K O gc)) (ha:PSs X a (tS X.K O fr ga)) (hb:PSs X b (tS X.K O fr gb)):PS X (.If c a b pos) (tS X.K O fr (gIf gc ga gb)):=(zq2 hc ha hb).mono fun E σ H hh=>hh.e fun H0 U A0 δ r R F ed P=>by
 obtain ⟨x,e1,e2⟩:=bind1 ed
 refine ⟨U,A0,δ,x,R,e1,fun H' s=>?_⟩
 cases x with
 | true=>rw [if_pos rfl] at e2 ⊢; exact ⟨H0,U,A0,δ,r,R.same s,F.grow s,e2,P⟩
 | false=>rw [if_neg Bool.false_ne_true] at e2 ⊢; exact ⟨H0,U,A0,δ,r,R.same s,F.grow s,e2,P⟩
theorem zp {i:Nat} (h:PS X st (tAsg (tE X.K O ge) (gName i))) (hi:i∉O:=by decide):PS X st (tS X.K O fr (gSet i ge)):=h.mono fun E σ H hh=>hh.e fun H0 U A0 δ r R F ed P=>by
 obtain ⟨d,e1,e2⟩:=bind1 ed
 cases e2
 exact ⟨U,A0,δ,d,R,e1,fun v H' s hv=>P U _ H' ((R.same s).set hi hv) (F.grow s)⟩
theorem zcd {i:Nat} (h:PS X st (tAsg (tN X.K O gl) (gName i))) (hi:i∈O:=by decide):PS X st (tS X.K O fr (gSetN i gl)):=h.mono fun E σ H hh=>hh.e fun H0 U A0 δ r R F ed P=>by
 obtain ⟨d,e1,e2⟩:=bind1 ed
 cases e2
 exact ⟨U,A0,δ,d,R,e1,fun r ys H' s hr h1 h2=>P (r :: U) _ H' (R.setN s hr h1 h2 hi) (F.more s hr)⟩
theorem zc3 (h:PS X st (tDrop (tE X.K O ge))):PS X st (tS X.K O fr (gDrop ge)):=h.mono fun E σ H hh=>hh.e fun H0 U A0 δ r R F ed P=>by
 obtain ⟨d,e1,e2⟩:=bind1 ed
 cases e2
 exact ⟨U,A0,δ,d,R,e1,fun v H' s hv=>P U σ H' (R.same s) (F.grow s)⟩
theorem z6 (h:PE X e (tE X.K O ge)):PS X (.Return (some e) pos) (tS X.K O (false,xk) (gRet ge)):=(zlG h).mono fun E σ H hh=>hh.e fun H0 U A0 δ r R F ed P=>by
 obtain ⟨d,e1,e2⟩:=bind1 ed
 cases e2
 refine ⟨U,A0,δ,d,R,e1,fun v H' s hv=>P.1 v H' ?_⟩
 unfold RetR
 rw [if_neg Bool.false_ne_true]
 exact ⟨F.same.trans s,hv.same (zd1 fun a ha=>List.mem_append_right _ ha)⟩
theorem zdM (h:PE X e (tN X.K O gl)):PS X (.Return (some e) pos) (tS X.K O (true,xk) (gRet (gLst gl))):=(zlG h).mono fun E σ H hh=>hh.e fun H0 U A0 δ r R F ed P=>by
 obtain ⟨d,e1,e2⟩:=bind1 ed
 cases e2
 unfold gLst at e1
 cases eg:gl δ with
 | none=>rw [eg] at e1; cases e1
 | some l=>
   rw [eg] at e1; cases e1
   refine ⟨U,A0,δ,l,R,eg,fun r ys H' s hr h1 h2=>P.1 (.ref r) H' ?_⟩
   unfold RetR
   rw [if_pos rfl]
   refine ⟨r,_,rfl,F.same.trans s,F.same.free hr,h1,.lst (h2.same (zd1 fun a ha=>?_))⟩
   rcases List.mem_cons.mp ha with z | z
   ·subst z; simp
   ·exact List.mem_cons_of_mem _ (List.mem_append_right _ z)
theorem zbz {i:Nat} (h:PE X e (tVar i)) (hi:i∈O:=by decide):PS X (.Return (some e) pos) (tS X.K O fr (gRet (gVar i))):=(zlG h).mono fun E σ H hh=>hh.e fun H0 U A0 δ r R F ed P=>by
 obtain ⟨d,e1,e2⟩:=bind1 ed
 cases e2
 obtain ⟨l,o,hl,hU,h1,h2⟩:=R.ow i d hi (zr e1)
 refine ⟨.ref l,hl,P.1 (.ref l) H ?_⟩
 unfold RetR
 split
 ·refine ⟨l,o,rfl,F.same,F.new l hU,h1,h2.same (zd1 fun a ha=>?_)⟩
  rcases List.mem_cons.mp ha with z | z
  ·subst z; exact List.mem_append_left _ hU
  ·exact List.mem_append_right _ z
 ·refine ⟨F.same,(h2.same (zd1 fun a ha=>List.mem_append_right _ ha)).hd ?_⟩
  rw [zam (F.out hU)]; exact h1
noncomputable def gApp (i:Nat) (g:DS->Option D):DS->Option Res:=fun δ=>(gVar i δ).bind fun x=>(g δ).bind fun d=>match x with
 | .list ds=>if ds.length < 100000 then some (.nx (δ.set i (some (.list (ds ++ [d]))))) else none
 | _=>none
set_option tactic.hygienic true in
theorem zdB {i:Nat} (h:PS X st (tDrop (tBM X.K "list" rAppend (tVar i) (tCons (tE X.K O ge) tNil)))) (hi:i∈O:=by decide):PS X st (tS X.K O fr (gApp i ge)):=h.mono fun E σ H hh=>hh.e fun H0 U A0 δ r R F ed P=>by
 obtain ⟨x,e1,e2⟩:=bind1 ed
 obtain ⟨d,e3,e4⟩:=bind1 e2
 rcases R.owL i x hi (zr e1) with ⟨l,ys,ds,hl,rfl,hU,h1,h2⟩ | ⟨kds,rfl⟩
 rotate_left
 ·(exfalso; simp_all; done)
 simp only at e4
 split at e4
 ·rename_i hz
  cases e4
  refine ⟨.ref l,hl,.inl ⟨rfl,ys,SqL.of h1⟩,U,A0,δ,d,R,e3,fun v H' s hv=>?_⟩
  have h1':=s _ _ h1
  have h2':=h2.same (zav (A:=U ++ A0) s)
  have hlen:=h2.len
  refine ⟨l,ys,v,rfl,rfl,h1',small' (by omega),?_⟩
  exact P U σ _ ((R.same s).put hi hl hU (h2'.app (.cons hv .nil)) ⟨_,zr e1⟩) ((F.grow s).put hU _)
 ·cases e4
noncomputable def gPop (i:Nat):DS->Option Res:=fun δ=>(gVar i δ).bind fun x=>match x with
 | .list ds=>if ds=[] then none else some (.nx (δ.set i (some (.list ds.dropLast))))
 | _=>none
set_option tactic.hygienic true in
theorem zpF {i:Nat} (h:PS X st (tDrop (tBM0 X.K "list" rPop (tVar i)))) (hi:i∈O:=by decide):PS X st (tS X.K O fr (gPop i)):=h.mono fun E σ H hh=>hh.e fun H0 U A0 δ r R F ed P=>by
 obtain ⟨x,e1,e2⟩:=bind1 ed
 rcases R.owL i x hi (zr e1) with ⟨l,ys,ds,hl,rfl,hU,h1,h2⟩ | ⟨kds,rfl⟩
 rotate_left
 ·(exfalso; simp_all; done)
 simp only at e2
 split at e2
 ·cases e2
 ·rename_i hz
  cases e2
  have hlen:=h2.len
  have hpos:0 < ds.length:=List.length_pos_iff.mpr hz
  obtain ⟨y,hy⟩:∃ y,ys[ys.length - 1]?=some y:=⟨_,List.getElem?_eq_getElem (by omega)⟩
  refine ⟨.ref l,hl,.inl ⟨rfl,ys,SqL.of h1⟩,l,ys,y,rfl,rfl,h1,hy,?_⟩
  exact P U σ _ (R.put hi hl hU h2.dropLastD ⟨_,zr e1⟩) (F.put hU _)
noncomputable def gAugI (i:Nat) (f:Int->Int->Int) (ge:DS->Option D):DS->Option Res:=fun δ=>(gVar i δ).bind fun x=>(ge δ).bind fun y=>match x,y with
 | .int a,.int b=>some (.nx (δ.set i (some (.int (f a b)))))
 | _,_=>none
theorem zkq {i:Nat} {f:Int->Int->Int} (h:PS X st (tAug i (tSh X.K O ge) (ipI f))) (hi:i∉O:=by decide):PS X st (tS X.K O fr (gAugI i f ge)):=h.mono fun E σ H hh=>hh.e fun H0 U A0 δ r R F ed P=>by
 obtain ⟨x,e1,e2⟩:=bind1 ed
 obtain ⟨y,e3,e4⟩:=bind1 e2
 obtain ⟨v,hv,hd⟩:=R.fz i x hi (zr e1)
 cases x with
 | int m=>cases y with
   | int n=>
     cases e4
     cases hd
     refine ⟨_,hv,U,A0,δ,_,R,e3,fun u H' s hu=>⟨m,n,rfl,hu.int,?_⟩⟩
     exact P U _ H' ((R.same s).set hi (.int _)) (F.grow s)
   | _=>cases e4
 | _=>cases y <;> cases e4
end
noncomputable def whN (c:DS->Option Bool) (b:DS->Option Res):Nat->DS->Option Res
 | 0,_=>none
 | n + 1,δ=>(c δ).bind fun x=>if x=true then (b δ).bind (fun | .nx δ'=>whN c b n δ' | .ct δ'=>whN c b n δ' | .bk δ'=>some (.nx δ') | .rt d=>some (.rt d)) else some (.nx δ)
theorem zj7 {c:DS->Option Bool} {b:DS->Option Res}:∀ {n:Nat} {δ:DS} {r:Res},whN c b n δ=some r->whN c b (n + 1) δ=some r
 | 0,_,_,h=>by cases h
 | n + 1,δ,r,h=>by
   rw [whN] at h ⊢
   obtain ⟨x,e1,e2⟩:=bind1 h
   rw [e1,Option.bind_some]
   cases x with
   | false=>exact e2
   | true=>
     rw [if_pos rfl] at e2 ⊢
     obtain ⟨q,e3,e4⟩:=bind1 e2
     rw [e3,Option.bind_some]
     cases q with
     | nx δ'=>exact zj7 e4
     | ct δ'=>exact zj7 e4
     | bk _=>exact e4
     | rt _=>exact e4
theorem znM {c:DS->Option Bool} {b:DS->Option Res} {n m:Nat} {δ:DS} {r:Res} (h:whN c b n δ=some r) (hm:n<=m):whN c b m δ=some r:=by
 induction hm with
 | refl=>exact h
 | step _ ih=>exact zj7 ih
open Classical in
noncomputable def gWhile (c:DS->Option Bool) (b:DS->Option Res):DS->Option Res:=fun δ=>if h:∃ p:Nat×Res,whN c b p.1 δ=some p.2 then some (choose h).2 else none
set_option tactic.hygienic true in
theorem zhS {c:DS->Option Bool} {b:DS->Option Res} {δ:DS} {r:Res} (h:gWhile c b δ=some r):∃ n,whN c b n δ=some r:=by
 unfold gWhile at h
 split at h
 ·rename_i hp
  cases h
  exact ⟨_,Classical.choose_spec hp⟩
 ·cases h
theorem zj8 {c:DS->Option Bool} {b:DS->Option Res} {n:Nat} {δ:DS} {r:Res} (h:whN c b n δ=some r):gWhile c b δ=some r:=by
 have hp:∃ p:Nat×Res,whN c b p.1 δ=some p.2:=⟨(n,r),h⟩
 unfold gWhile
 rw [dif_pos hp]
 have h2:=Classical.choose_spec hp
 have a1:=znM h (Nat.le_max_left n (Classical.choose hp).1)
 have a2:=znM h2 (Nat.le_max_right n (Classical.choose hp).1)
 rw [a1] at a2
 exact a2.symm
theorem zli {c:DS->Option Bool} {b:DS->Option Res} (W:Nat->DS->Prop) (r:DS->Res->Prop) (m:Nat) (δ:DS) (h:W m δ)
  (hs:∀ m δ,W m δ->(c δ=some false /\ r δ (.nx δ)) \/ (c δ=some true /\ ((∃ δ' m',(b δ=some (.nx δ') \/ b δ=some (.ct δ')) /\ m' < m /\ W m' δ' /\ ∀ q,r δ' q->r δ q) \/ (∃ δ',b δ=some (.bk δ') /\ r δ (.nx δ')) \/ ∃ d,b δ=some (.rt d) /\ r δ (.rt d)))):
  ∃ q,gWhile c b δ=some q /\ r δ q:=by
 suffices hh:∀ k m δ,m < k->W m δ->∃ n q,whN c b n δ=some q /\ r δ q by
  obtain ⟨n,q,e,hq⟩:=hh (m + 1) m δ (Nat.lt_succ_self m) h
  exact ⟨q,zj8 e,hq⟩
 intro k
 induction k with
 | zero=>intro m δ hm; omega
 | succ k ih=>
   intro m δ hm hW
   rcases hs m δ hW with ⟨hc,hr⟩ | ⟨hc,⟨δ',m',hb,hlt,hW',imp⟩ | ⟨δ',hb,hr⟩ | ⟨d,hb,hr⟩⟩
   ·exact ⟨1,_,by rw [whN,hc]; rfl,hr⟩
   ·obtain ⟨n,q,e,hq⟩:=ih m' δ' (by omega) hW'
    refine ⟨n + 1,q,?_,imp q hq⟩
    rw [whN,hc,Option.bind_some,if_pos rfl]
    rcases hb with hb | hb <;> rw [hb,Option.bind_some] <;> exact e
   ·exact ⟨1,_,by rw [whN,hc,Option.bind_some,if_pos rfl,hb]; rfl,hr⟩
   ·exact ⟨1,_,by rw [whN,hc,Option.bind_some,if_pos rfl,hb]; rfl,hr⟩
section
variable {X:Cx} {O:List Nat} {fr:Fr} {body:List Stmt} {gb:DS->Option Res} {gc:DS->Option Bool} {c:Expr} {pos:Pos}
theorem zeh (hp:PassesOwn (model X.prog X.w) X.A X.env X.xe) (hc:PT X c (tT X.K O gc)) (hb:PSs X body (tS X.K O fr gb)):PS X (.While c body [] pos) (tS X.K O fr (gWhile gc gb)):=(zmE hp hc hb).mono fun E σ H hh=>hh.e fun H0 U A0 δ r R F ed P=>by
 obtain ⟨n,en⟩:=zhS ed
 refine ⟨fun m σ H=>∃ U δ,Rel X.K O U A0 σ δ H /\ Fx H0 A0 U H /\ whN gc gb m δ=some r,⟨n,U,δ,R,F,en⟩,?_⟩
 rintro m σ H ⟨U,δ,R,F,em⟩
 cases m with
 | zero=>cases em
 | succ m=>
   rw [whN] at em
   obtain ⟨x,e1,e2⟩:=bind1 em
   refine ⟨U,A0,δ,x,R,e1,fun H' s=>?_⟩
   cases x with
   | false=>rw [if_neg Bool.false_ne_true] at e2 ⊢; cases e2; exact P U σ H' (R.same s) (F.grow s)
   | true=>
     rw [if_pos rfl] at e2 ⊢
     obtain ⟨q,e3,e4⟩:=bind1 e2
     refine ⟨fun σ' H'=>∃ m',m' < m + 1 /\ ∃ U δ,Rel X.K O U A0 σ' δ H' /\ Fx H0 A0 U H' /\ whN gc gb m' δ=some r,fun _ _ h=>h,H0,U,A0,δ,q,R.same s,F.grow s,e3,?_⟩
     cases q with
     | nx δ'=>exact fun U' σ' H' R' F'=>⟨m,Nat.lt_succ_self m,U',δ',R',F',e4⟩
     | ct δ'=>exact fun U' σ' H' R' F'=>⟨m,Nat.lt_succ_self m,U',δ',R',F',e4⟩
     | bk δ'=>cases e4; exact P
     | rt d=>cases e4; exact P
end
noncomputable def gName' (i:Nat):D->DS->Option DS:=fun d δ=>some (δ.set i (some d))
noncomputable def gTupT (n:Nat) (g:List D->DS->Option DS):D->DS->Option DS:=fun d δ=>match d with
 | .tuple ds=>if ds.length=n then g ds δ else none
 | _=>none
noncomputable def gNilT:List D->DS->Option DS:=fun ds δ=>if ds=[] then some δ else none
noncomputable def gConsT (t:D->DS->Option DS) (u:List D->DS->Option DS):List D->DS->Option DS:=fun ds δ=>match ds with
 | d :: r=>(t d δ).bind fun δ'=>u r δ'
 | []=>none
noncomputable def tGs (K:PySem.W.Frag) (O:List Nat) (g:List D->DS->Option DS):TGs:=fun vs σ H Q=>∃ U A0 δ ds δ',Rel K O U A0 σ δ H /\ HDs K (wo H (U ++ A0)) vs ds /\ g ds δ=some δ' /\ ∀ σ',Rel K O U A0 σ' δ' H->Q σ' H
theorem tGs.e {K:PySem.W.Frag} {O:List Nat} {g:List D->DS->Option DS}  {vs:_} {σ:_} {H:_} {Q:_} {GG:Prop} (hh:tGs K O g vs σ H Q) (kk:∀ U A0 δ ds δ',(Rel K O U A0 σ δ H)->(HDs K (wo H (U ++ A0)) vs ds)->(g ds δ=some δ')->(∀ σ',Rel K O U A0 σ' δ' H->Q σ' H)->GG):GG:=by obtain ⟨U,A0,δ,ds,δ',x0,x1,x2,x3⟩:=hh; exact kk U A0 δ ds δ' x0 x1 x2 x3
section
variable {X:Cx} {O:List Nat} {e:Expr} {es:List Expr} {pos:Pos}
theorem PGs.mono {t t':TGs} (h:PGs X es t) (m:∀ v σ H Q,t' v σ H Q->t v σ H Q):PGs X es t':=fun pins s σ H v u Q I r q=>h pins s σ H v u Q I r (m v σ H Q q)
theorem zu {i:Nat} (h:PG X e (gName i)) (hi:i∉O:=by decide):PG X e (tG X.K O (gName' i)):=h.mono fun v σ H Q hh=>hh.e fun U A0 δ d δ' R hd e1 q=>by
 cases e1
 exact q _ (R.set hi hd)
set_option tactic.hygienic true in
theorem zco:PGs X [] (tGs X.K O gNilT):=zoV.mono fun vs σ H Q hh=>hh.e fun U A0 δ ds δ' R hd e1 q=>by
 unfold gNilT at e1
 split at e1
 ·rename_i hz
  cases e1
  subst hz
  cases hd
  exact ⟨rfl,q σ R⟩
 ·cases e1
theorem zag {t:D->DS->Option DS} {u:List D->DS->Option DS} (h1:PG X e (tG X.K O t)) (h2:PGs X es (tGs X.K O u)) (hs:(assignEach (e :: es) X.env).map (·.2)=assign e X.env :: (assignEach es X.env).map (·.2):=by rfl):PGs X (e :: es) (tGs X.K O (gConsT t u)):=
 (zme h1 h2 hs).mono fun vs σ H Q hh=>hh.e fun U A0 δ ds δ' R hd e1 q=>by
  cases hd with
  | nil=>cases e1
  | cons hx hr=>
    obtain ⟨δ1,e2,e3⟩:=bind1 e1
    exact ⟨_,_,rfl,U,A0,δ,_,δ1,R,hx,e2,fun σ1 R1=>⟨U,A0,δ1,_,δ',R1,hr,e3,q⟩⟩
set_option tactic.hygienic true in
theorem zct {n k:Nat} {t:List D->DS->Option DS} (hc:X.calm=true) (h:PGs X es (tGs X.K O t)) (hn:(assignEach es X.env).length=n:=by rfl) (hst:(assignEach es X.env).findIdx? (·.1)=none:=by rfl):PG X (.Tuple es k pos) (tG X.K O (gTupT n t)):=
 (zqi hc h hn hst).mono fun v σ H Q hh=>hh.e fun U A0 δ d δ' R hd e1 q=>by
  unfold gTupT at e1
  split at e1
  ·split at e1
   ·rename_i hz
    obtain ⟨a,xs,rfl,h1,h2⟩:=(ShD.of hd).tuple
    exact ⟨a,xs,rfl,h1,by rw [h2.len]; exact hz,U,A0,δ,_,δ',R,h2,e1,q⟩
   ·cases e1
  ·cases e1
end
noncomputable def forD (t:D->DS->Option DS) (b:DS->Option Res):List D->DS->Option Res
 | [],δ=>some (.nx δ)
 | d :: ds,δ=>(t d δ).bind fun δ1=>(b δ1).bind fun | .nx δ'=>forD t b ds δ' | .ct δ'=>forD t b ds δ' | .bk δ'=>some (.nx δ') | .rt d=>some (.rt d)
noncomputable def gFor (gi:DS->Option (List D)) (t:D->DS->Option DS) (b:DS->Option Res):DS->Option Res:=fun δ=>(gi δ).bind fun ds=>forD t b ds δ
theorem Fx.overW {H0 H H':Hp} {A0 U:List Addr} (F:Fx H0 A0 U H) (s:Same (wo H U) H'):Same H0 H':=fun a o e=>s a o (by
 rw [zam fun z=>?_]
 ·exact F.same _ _ e
 ·rw [F.new a z] at e; cases e)
set_option tactic.hygienic true in
theorem RetR.trans {K:PySem.W.Frag} {fr:Bool} {H0 H H':Hp} {A0 U:List Addr} {v:V} {d:D} (F:Fx H0 A0 U H) (h:RetR K fr (wo H U) A0 v d H'):RetR K fr H0 A0 v d H':=by
 have k:∀ a o,H0 a=some o->wo H U a=some o:=fun a o e=>by
  rw [zam fun z=>?_]
  ·exact F.same _ _ e
  ·rw [F.new a z] at e; cases e
 unfold RetR at h ⊢
 split
 ·rename_i hf
  rw [if_pos hf] at h
  obtain ⟨r,ob,a,c,e,f,g⟩:=h
  refine ⟨r,ob,a,fun x o q=>c _ _ (k x o q),?_,f,g⟩
  cases q:H0 r with
  | none=>rfl
  | some o=>rw [k r o q] at e; cases e
 ·rename_i hf
  rw [if_neg hf] at h
  exact ⟨fun x o q=>h.1 _ _ (k x o q),h.2⟩
section
variable {X:Cx} {O:List Nat} {fr:Fr} {body:List Stmt} {gb:DS->Option Res} {gi:DS->Option (List D)} {tg iter:Expr} {gt:D->DS->Option DS} {pos:Pos}
theorem za4 (hp:PassesOwn (model X.prog X.w) X.A X.env X.xe) (hc:X.calm=true) (hi:PI X tg iter (tI X.K O gi)) (hg:PG X tg (tG X.K O gt)) (hb:PSs X body (tS X.K O fr gb))
  (hs:∀ x,foldedSetIterable iter X.env x=pure x:=by intro _; rfl):PS X (.For tg iter body [] pos) (tS X.K O fr (gFor gi gt gb)):=(zpA hp hc hi hg hb hs).mono fun E σ H hh=>hh.e fun H0 U A0 δ r R F ed P=>by
 obtain ⟨ds,e1,e2⟩:=bind1 ed
 refine ⟨U,A0,δ,ds,R,e1,fun J H1 s hw=>?_⟩
 have F1:=F.grow s
 refine ⟨fun i m σ H=>m=ds.length - i /\ i<=ds.length /\ ∃ U2 δ,Rel X.K O U2 A0 σ δ H /\ Fx H0 A0 U2 H /\ Fx (wo H1 U) A0 U2 H /\ forD gt gb (ds.drop i) δ=some r,⟨ds.length,by simp,Nat.zero_le _,U,δ,R.same s,F1,F1.here,by simpa using e2⟩,?_⟩
 rintro i m σ H ⟨rfl,hle,U2,δ,R2,F2,G2,ef⟩
 obtain ⟨hgo,hstop⟩:=hw (U2 ++ A0) i H G2.keeps R2.al
 by_cases hlt:i < ds.length
 ·obtain ⟨d,hd⟩:∃ d,ds[i]?=some d:=⟨_,List.getElem?_eq_getElem hlt⟩
  have hdrop:ds.drop i=d :: ds.drop (i + 1):=by
   rw [List.drop_eq_getElem_cons hlt]
   rw [List.getElem?_eq_getElem hlt] at hd
   cases hd; rfl
  obtain ⟨go,hy⟩:=hgo d hd
  rw [hdrop,forD] at ef
  obtain ⟨δ1,e3,e4⟩:=bind1 ef
  obtain ⟨q,e5,e6⟩:=bind1 e4
  refine .inr ⟨go,fun σ' H'=>∃ m',m' < ds.length - i /\ (m'=ds.length - (i + 1) /\ i + 1<=ds.length /\ ∃ U2 δ,Rel X.K O U2 A0 σ' δ H' /\ Fx H0 A0 U2 H' /\ Fx (wo H1 U) A0 U2 H' /\ forD gt gb (ds.drop (i + 1)) δ=some r),fun _ _ h=>h,fun x H2 y=>?_⟩
  obtain ⟨s2,hx⟩:=hy x H2 y
  refine ⟨U2,A0,δ,d,δ1,R2.same s2,hx,e3,fun σ' R'=>?_⟩
  have F3:=F2.grow s2
  have G3:=G2.grow s2
  refine ⟨wo H2 U2,U2,A0,δ1,q,R',F3.here,e5,?_⟩
  cases q with
  | nx δ'=>exact fun U' σ' H' R' F'=>⟨_,by omega,rfl,hlt,U',δ',R',F3.trans F',G3.trans F',e6⟩
  | ct δ'=>exact fun U' σ' H' R' F'=>⟨_,by omega,rfl,hlt,U',δ',R',F3.trans F',G3.trans F',e6⟩
  | bk δ'=>cases e6; exact fun U' σ' H' R' F'=>P U' σ' H' R' (F3.trans F')
  | rt d=>cases e6; exact ⟨fun v H' h=>P.1 v H' (h.trans F3),fun c H' e s=>P.2 c H' e (F3.overW s)⟩
 ·have hi:i=ds.length:=by omega
  subst hi
  rw [List.drop_length,forD] at ef
  cases ef
  exact .inl ⟨hstop rfl,P U2 σ H R2 F2⟩
end
noncomputable def rangeD (lo:Int) (n:Nat):List D:=(List.range n).map fun k:Nat=>PyData.int (lo + k)
theorem zjr {lo:Int} {n i:Nat} {d:D} (h:(rangeD lo n)[i]?=some d):i < n /\ d=.int (lo + i):=by
 unfold rangeD at h
 rw [List.getElem?_map] at h
 cases e:(List.range n)[i]? with
 | none=>rw [e] at h; cases h
 | some k=>
   rw [e] at h; cases h
   have hi:=(List.getElem?_eq_some_iff.mp e).1
   rw [List.length_range] at hi
   rw [List.getElem?_range hi] at e
   cases e
   exact ⟨hi,rfl⟩
theorem zjg {lo:Int} {n:Nat}:(rangeD lo n).length=n:=by unfold rangeD; simp
theorem zex {K:PySem.W.Frag} {A:List Addr} {H1:Hp} {lo:Int} {n:Nat}:Walks K A H1 (Itr lo n) (rangeD lo n):=by
 intro A' i H _ _
 refine ⟨fun d hd=>?_,fun hi=>?_⟩
 ·obtain ⟨hi,rfl⟩:=zjr hd
  refine ⟨hi,fun x H2 y=>?_⟩
  obtain ⟨rfl,rfl⟩:=y
  exact ⟨Same.refl _,.int _⟩
 ·rw [zjg] at hi
  subst hi
  exact Nat.le_refl _
noncomputable def gRange1 (g:DS->Option (List D)):DS->Option (List D):=fun δ=>(g δ).bind fun | [.int j]=>if -(2 ^ 62)<=j /\ j < 2 ^ 62 then some (rangeD 0 j.toNat) else none | _=>none
noncomputable def gRange2 (g:DS->Option (List D)):DS->Option (List D):=fun δ=>(g δ).bind fun | [.int i,.int j]=>if -(2 ^ 62)<=i /\ i < 2 ^ 62 /\ -(2 ^ 62)<=j /\ j < 2 ^ 62 then some (rangeD i (j - i).toNat) else none | _=>none
noncomputable def gItems (g:DS->Option D):DS->Option (List D):=fun δ=>(g δ).bind fun | .list l=>some l | .tuple l=>some l | _=>none
section
variable {X:Cx} {O:List Nat} {tg a b e:Expr} {gr:DS->Option (List D)} {ge:DS->Option D} {pos p:Pos}
set_option tactic.hygienic true in
theorem zbJ (hm:X.mg "range"=none) (ha:PA X [a] (tAs X.K O gr)) (hg:Gl X "range":=by rfl) (hs:starEach [a] X.env=[(false,eval a X.env)]:=by rfl):PI X tg (.Call (.Name "range" p) [a] [] pos) (tI X.K O (gRange1 gr)):=(zkp hg hm ha hs).mono fun σ H Q hh=>hh.e fun U A0 δ ds R ed q=>by
 obtain ⟨x,e1,e2⟩:=bind1 ed
 refine ⟨U,A0,δ,x,R,e1,fun vs H' s h=>?_⟩
 split at e2
 ·split at e2
  ·rename_i hz
   cases e2
   cases h with
   | cons h1 h2=>
     cases h2
     cases h1
     exact ⟨_,rfl,hz.1,hz.2,q _ H' s zex⟩
  ·cases e2
 ·cases e2
set_option tactic.hygienic true in
theorem zky (hm:X.mg "range"=none) (ha:PA X [a,b] (tAs X.K O gr)) (hg:Gl X "range":=by rfl) (hs:starEach [a,b] X.env=[(false,eval a X.env),(false,eval b X.env)]:=by rfl) (hs2:starEach [b] X.env=[(false,eval b X.env)]:=by rfl):PI X tg (.Call (.Name "range" p) [a,b] [] pos) (tI X.K O (gRange2 gr)):=(zjQ hg hm ha hs hs2).mono fun σ H Q hh=>hh.e fun U A0 δ ds R ed q=>by
 obtain ⟨x,e1,e2⟩:=bind1 ed
 refine ⟨U,A0,δ,x,R,e1,fun vs H' s h=>?_⟩
 split at e2
 ·split at e2
  ·rename_i hz
   cases e2
   cases h with
   | cons h1 h2=>cases h2 with
     | cons h2 h3=>
       cases h3
       cases h1
       cases h2
       exact ⟨_,_,rfl,hz,q _ H' s zex⟩
  ·cases e2
 ·cases e2
noncomputable def iSeq (K:PySem.W.Frag) (tl:TE):TI:=fun σ H R=>tl σ H fun x H1=>(∃ a,x=.ref a /\ (∃ xs,SqL K H1 a xs) /\ R (Itl K a) H1) \/ ∃ a,x=.ref a /\ (∃ xs,SqT K H1 a xs) /\ R (Itt K a) H1
theorem znG {l:Expr} {tl:TE} (hl:PE X l tl):PI X tg l (iSeq X.K tl):=by
 intro pins s σ H R I h
 refine thn (hl pins s σ H _ I h) fun v s1 ⟨x,H1,I1,r1,q1⟩=>?_
 rcases q1 with ⟨a,e,⟨xs,hq⟩,q⟩ | ⟨a,e,⟨xs,hq⟩,q⟩
 ·subst e
  cases r1
  obtain ⟨its,rv,p,hz⟩:=I1.list hq
  refine wpAny_pyIter_list p.isList ?_
  refine ⟨s1.heap.objs.size,[s1.heap.objs.size],_,_,H1,rfl,I1.kept (t':=s1.toks) fun b o e=>Heap.get?_push_of_some _ e,zlg a _,⟨_,Heap.get?_push_size _ rfl,rfl,rfl⟩,fun b hb=>?_,q⟩
  have e:b=s1.heap.objs.size:=by simpa using hb
  subst e
  exact I1.fpOk (Nat.le_refl _) (I1.hok.fresh (Nat.le_refl _))
 ·subst e
  cases r1
  obtain ⟨its,rv,p,hz⟩:=I1.tuple hq
  refine wpAny_pyIter_tuple (show s1.heap.IsTuple a its.toArray from p) ?_
  refine ⟨s1.heap.objs.size,[s1.heap.objs.size],_,_,H1,rfl,I1.kept (t':=s1.toks) fun b o e=>Heap.get?_push_of_some _ e,zi8 a _,⟨_,Heap.get?_push_size _ rfl,rfl,rfl⟩,fun b hb=>?_,q⟩
  have e:b=s1.heap.objs.size:=by simpa using hb
  subst e
  exact I1.fpOk (Nat.le_refl _) (I1.hok.fresh (Nat.le_refl _))
theorem zbf (h:PE X e (tE X.K O ge)):PI X tg e (tI X.K O (gItems ge)):=(znG h).mono fun σ H Q hh=>hh.e fun U A0 δ ds R ed q=>by
 obtain ⟨x,e1,e2⟩:=bind1 ed
 cases x with
 | list l=>
   cases e2
   refine ⟨U,A0,δ,_,R,e1,fun v H' s h=>?_⟩
   cases h with
   | lst hq h=>
     refine .inl ⟨_,rfl,⟨_,(hq.same zan).sq⟩,q _ H' s ?_⟩
     intro A' i H2 s2 _
     have hq2:=hq.same s2
     have h2:=h.same s2
     have hL:SqL X.K H2 _ _:=(hq2.same zan).sq
     refine ⟨fun d hd=>?_,fun hi=>⟨_,hL,by rw [h2.len]; omega⟩⟩
     obtain ⟨x,hx,hxd⟩:=h2.get hd
     refine ⟨⟨_,x,hL,hx⟩,fun y H3 hy=>?_⟩
     obtain ⟨rfl,hy⟩:=hy
     have:=hy _ hL
     rw [hx] at this
     cases this
     exact ⟨Same.refl _,hxd⟩
 | tuple l=>
   cases e2
   refine ⟨U,A0,δ,_,R,e1,fun v H' s h=>?_⟩
   cases h with
   | tup hq h=>
     refine .inr ⟨_,rfl,⟨_,(.inl (zan.tupT hq))⟩,q _ H' s ?_⟩
     intro A' i H2 s2 _
     have hq2:=s2.tupT hq
     have h2:=h.same s2
     have hL:SqT X.K H2 _ _:=.inl (zan.tupT hq2)
     refine ⟨fun d hd=>?_,fun hi=>⟨_,hL,by rw [h2.len]; omega⟩⟩
     obtain ⟨x,hx,hxd⟩:=h2.get hd
     refine ⟨⟨_,x,hL,hx⟩,fun y H3 hy=>?_⟩
     obtain ⟨rfl,hy⟩:=hy
     have:=hy _ hL
     rw [hx] at this
     cases this
     exact ⟨Same.refl _,hxd⟩
 | _=>cases e2
end
noncomputable def captD (ix:List Nat) (δ:DS):DS:=ix.map fun j=>(δ[j]?).join
noncomputable def mapD (f:D->Option D):List D->Option (List D)
 | []=>some []
 | d :: ds=>(f d).bind fun x=>(mapD f ds).bind fun xs=>some (x :: xs)
noncomputable def gComp (gi:DS->Option (List D)) (ix:List Nat) (ge:DS->Option D):DS->Option (List D):=fun δ=>(gi δ).bind fun ds=>if ds.length<=100000 then mapD (fun d=>ge (some d :: captD ix δ)) ds else none
section
variable {X:Cx} {O:List Nat} {fr:Fr} {scope:Scope} {x:Str} {elt iter:Expr} {px pos:Pos} {gi:DS->Option (List D)} {ge:DS->Option D}
theorem PS.nE {st:Stmt} {i:Nat} {g:DS->Option (List D)} (h:PS X st (tAsg (tN X.K O g) (gName i))):PS X st (tAsg (tE X.K O (gLst g)) (gName i)):=h.mono fun _ _ _ h=>zpu h
end
noncomputable def gOut:Res->Option D
 | .rt d=>some d
 | .nx _=>some .none
 | _=>none
noncomputable def gOutN:Res->Option (List D)
 | .rt (.list l)=>some l
 | _=>none
noncomputable def gDef (n:Nat) (g:DS->Option Res):List D->Option D:=fun ds=>(g (ds.map some ++ List.replicate (n - ds.length) none)).bind gOut
noncomputable def gDefN (n:Nat) (g:DS->Option Res):List D->Option (List D):=fun ds=>(g (ds.map some ++ List.replicate (n - ds.length) none)).bind gOutN
theorem Rel.start {K:PySem.W.Frag} {O:List Nat} {A:List Addr} {N:List Str} {vs:List V} {ds:List D} {H:Hp} (al:Ls A H) (h:HDs K (wo H A) vs ds) (hO:∀ i∈O,ds.length<=i):Rel K O [] A (start N vs) (ds.map some ++ List.replicate (N.length - ds.length) none) H:=by
 have hl:=h.len
 have none_of:∀ (i:Nat) d,ds.length<=i->(ds.map some ++ List.replicate (N.length - ds.length) none)[i]?=some (some d)->False:=by
  intro i d hi q
  rw [List.getElem?_append_right (by simpa using hi)] at q
  have:=List.mem_of_getElem? q
  rw [List.mem_replicate] at this
  exact absurd this.2 (by simp)
 exact {
  len:=by unfold L2.start; simp [hl]
  fz:=fun i d _ q=>by
   by_cases hi:i < ds.length
   ·rw [List.getElem?_append_left (by simpa using hi),List.getElem?_map,List.getElem?_eq_getElem hi] at q
    simp only [Option.map_some,Option.some.injEq] at q
    obtain ⟨v,e,hv⟩:=h.get (List.getElem?_eq_getElem hi)
    refine ⟨v,?_,?_⟩
    ·unfold L2.start
     rw [List.getElem?_append_left (by rw [List.length_map]; omega),List.getElem?_map,e]; rfl
    ·rw [List.nil_append,<- q]; exact hv
   ·exact (none_of i d (by omega) q).elim
  ow:=fun i d hi q=>(none_of i d (hO i hi) q).elim
  inj:=fun i j d e l hi _ _ q=>(none_of i d (hO i hi) q).elim
  al:=al }
theorem Fx.start {A:List Addr} {H:Hp} (al:Ls A H):Fx H A [] H:=⟨Same.refl H,fun _ h=>by simp at h,al⟩
section
variable {P:Program} {w:World} {K:PySem.W.Frag} {mg:Str->Option Value} {base:Heap} {x:Str} {st:Stmt} {N ps:List Str} {k:Nat}
theorem zaD (O:List Nat) (g:DS->Option Res) (F:Df K mg x st ps) (S:FnScope N ps (defScope st))
  (body:∀ (f:Addr) (cdv:Value) (A:Around) (outer:List Env) (s:Shared) (H:Hp) (E:XK),Room k (A.deeper (envOfC x (defScope st) s.heap.objs.size f cdv))->PSs (cxOf CX0 P w K mg base N x (defScope st) f cdv A outer s H E).nox (defBody st) (tS K O (false,fun _ _=>True) g))
  (hO:∀ i∈O,ps.length<=i:=by decide) {n m:Nat} (hN:N.length=n:=by rfl) (hP:ps.length=m:=by rfl):Dn P w K mg base (k + 1) x ps (spD K m (gDef n g)):=by
 subst hN hP
 refine F.ok S (fun vs H Q E h=>h.1) (fun f cdv A outer s H vs Q E hr h=>⟨_,body f cdv A outer s H E hr,?_⟩)
 obtain ⟨hn,A',ds,d,al,hd,e,q⟩:=h
 obtain ⟨r,e1,e2⟩:=bind1 e
 refine ⟨H,[],A',_,r,Rel.start al hd (fun i hi=>by have:=hO i hi; rw [<- hd.len,hn]; exact this),Fx.start al,e1,?_⟩
 cases r with
 | nx δ=>cases e2; exact fun U σ H' R F'=>q .non H' F'.same .non
 | rt d=>cases e2; exact ⟨fun v H' h=>by unfold RetR at h; rw [if_neg Bool.false_ne_true] at h; exact q v H' h.1 h.2,fun _ _ _ _=>trivial⟩
 | bk _=>cases e2
 | ct _=>cases e2
theorem zq4 {f:Addr} {fd:FuncData} (O:List Nat) (g:DS->Option Res) (F:Fun K x x st f fd) (S:FnScope N ps (defScope st))
  (body:∀ (f:Addr) (cdv:Value) (A:Around) (outer:List Env) (s:Shared) (H:Hp) (E:XK),Room k (A.deeper (envOfC x (defScope st) s.heap.objs.size f cdv))->PSs (cxOf CX0 P w K mg base N x (defScope st) f cdv A outer s H E).nox (defBody st) (tS K O (false,fun _ _=>True) g))
  (hO:∀ i∈O,ps.length<=i:=by decide) {n m:Nat} (hN:N.length=n:=by rfl) (hP:ps.length=m:=by rfl):FnOk P w K mg base CX0 (k + 1) f fd ps (spD K m (gDef n g)):=by
 subst hN hP
 refine F.ok S (fun vs H Q E h=>h.1) (fun cdv A outer s H vs Q E hr h=>⟨_,body f cdv A outer s H E hr,?_⟩)
 obtain ⟨hn,A',ds,d,al,hd,e,q⟩:=h
 obtain ⟨r,e1,e2⟩:=bind1 e
 refine ⟨H,[],A',_,r,Rel.start al hd (fun i hi=>by have:=hO i hi; rw [<- hd.len,hn]; exact this),Fx.start al,e1,?_⟩
 cases r with
 | nx δ=>cases e2; exact fun U σ H' R F'=>q .non H' F'.same .non
 | rt d=>cases e2; exact ⟨fun v H' h=>by unfold RetR at h; rw [if_neg Bool.false_ne_true] at h; exact q v H' h.1 h.2,fun _ _ _ _=>trivial⟩
 | bk _=>cases e2
 | ct _=>cases e2
theorem zbo (O:List Nat) (g:DS->Option Res) (F:Df K mg x st ps) (S:FnScope N ps (defScope st))
  (body:∀ (f:Addr) (cdv:Value) (A:Around) (outer:List Env) (s:Shared) (H:Hp) (E:XK),Room k (A.deeper (envOfC x (defScope st) s.heap.objs.size f cdv))->PSs (cxOf CX0 P w K mg base N x (defScope st) f cdv A outer s H E).nox (defBody st) (tS K O (true,fun _ _=>True) g))
  (hO:∀ i∈O,ps.length<=i:=by decide) {n m:Nat} (hN:N.length=n:=by rfl) (hP:ps.length=m:=by rfl):Dn P w K mg base (k + 1) x ps (spN K m (gDefN n g)):=by
 subst hN hP
 refine F.ok S (fun vs H Q E h=>h.1) (fun f cdv A outer s H vs Q E hr h=>⟨_,body f cdv A outer s H E hr,?_⟩)
 obtain ⟨hn,A',ds,d,al,hd,e,q⟩:=h
 obtain ⟨r,e1,e2⟩:=bind1 e
 refine ⟨H,[],A',_,r,Rel.start al hd (fun i hi=>by have:=hO i hi; rw [<- hd.len,hn]; exact this),Fx.start al,e1,?_⟩
 cases r with
 | rt d'=>
   refine ⟨fun v H' h=>?_,fun _ _ _ _=>trivial⟩
   unfold RetR at h
   rw [if_pos rfl] at h
   obtain ⟨r,ob,rfl,a,b,c,f⟩:=h
   cases f with
   | lst f=>cases e2; exact q r _ H' a b c f
   | dct _ _=>cases e2
 | nx δ=>cases e2
 | bk _=>cases e2
 | ct _=>cases e2
end
end L2
namespace L2
open PySem PySem.Spec PyProof.Rows
noncomputable def gChain (f f':D->D->Option D) (a b c:DS->Option D):DS->Option D:=fun δ=>(a δ).bind fun x=>(b δ).bind fun y=>(f x y).bind fun z=>match z with
 | .bool true=>(c δ).bind fun w=>f' y w
 | .bool false=>some (.bool false)
 | _=>none
section
variable {X:Cx} {O:List Nat} {a b c:Expr} {ga gb gc:DS->Option D} {pos:Pos} {r r':R2}
theorem ziM {K:PySem.W.Frag} {f f':D->D->Option D} (imp:Imp2 K r f) (imp':Imp2 K r' f') {σ:St} {H:Hp} {Q:VK}:tE K O (gChain f f' ga gb gc) σ H Q->tChain r r' (tSh K O ga) (tSh K O gb) (tSh K O gc) σ H Q:=fun ⟨U,A0,δ,d,R,ed,q⟩=>by
 obtain ⟨x,e1,ed⟩:=bind1 ed
 obtain ⟨y,e2,ed⟩:=bind1 ed
 obtain ⟨z,e3,ed⟩:=bind1 ed
 refine ⟨U,A0,δ,x,R,e1,fun v1 H1 s1 h1=>⟨U,A0,δ,y,R.same s1,e2,fun v2 H2 s2 h2=>imp _ H2 v1 v2 x y z _ (R.same (s1.trans s2)).al (h1.same s2) h2 e3 fun v3 H3 s3 h3=>?_⟩⟩
 cases z with
 | bool k=>
   cases h3
   refine ⟨k,rfl,?_⟩
   cases k with
   | true=>
     obtain ⟨w,e4,e5⟩:=bind1 ed
     first
      | rw [if_pos rfl]
      | skip
     exact ⟨U,A0,δ,w,R.same ((s1.trans s2).trans s3),e4,fun v4 H4 s4 h4=>imp' _ H4 v2 v4 y w d Q (R.same (((s1.trans s2).trans s3).trans s4)).al (h2.same (s3.trans s4)) h4 e5 fun v H' s h=>q v H' ((((s1.trans s2).trans s3).trans s4).trans s) h⟩
   | false=>
     cases ed
     first
      | rw [if_neg Bool.false_ne_true]
      | skip
     exact q _ H3 ((s1.trans s2).trans s3) (.bl _)
 | _=>cases ed
theorem zna {op op':CmpOp} {f f':D->D->Option D} (ho:OpR X (compareOp op) r) (imp:Imp2 X.K r f) (ho':OpR X (compareOp op') r') (imp':Imp2 X.K r' f') (ha:PE X a (tSh X.K O ga)) (hb:PE X b (tSh X.K O gb)) (hc:PE X c (tSh X.K O gc)) (hm:lastMarks [op,op'] [b,c]=false:=by with_unfolding_all rfl):PE X (.Compare a [op,op'] [b,c] pos) (tE X.K O (gChain f f' ga gb gc)):=(zmO ho ho' ha hb hc hm).mono fun _ _ _=>ziM imp imp'
theorem zdo {op op':CmpOp} {f f':D->D->Option D} (ho:OpR X (compareOp op) r) (imp:Imp2 X.K r f) (ho':OpR X (compareOp op') r') (imp':Imp2 X.K r' f') (ha:PE X a (tSh X.K O ga)) (hb:PE X b (tSh X.K O gb)) (hc:PE X c (tSh X.K O gc)) (hm:lastMarks [op,op'] [b,c]=false:=by with_unfolding_all rfl):PT X (.Compare a [op,op'] [b,c] pos) (tT X.K O (gB (gChain f f' ga gb gc))):=(zmT ho ho' ha hb hc hm).mono fun _ _ _=>zqn fun _ _ _=>ziM imp imp'
end
section
variable {X:Cx} {O:List Nat} {fr:Fr} {st:Stmt} {gr:DS->Option (List D)} {i j:Nat}
end
noncomputable def dBits:D->Option D
 | .int i=>some (.int (Builtin.Int.intBits i:Nat))
 | _=>none
theorem zla {X:Cx} {O:List Nat} {o:Expr} {ga:DS->Option D} {apos cpos:Pos} (ho:PE X o (tSh X.K O ga)) (hbase:attributeBase o "bit_length" X.env (eval o X.env)=eval o X.env:=by rfl) (hline:(apos.endLine == cpos.line)=true:=by rfl):
  PE X (.Call (.Attribute o "bit_length" apos) [] [] cpos) (tE X.K O (g1 dBits ga)):=(zoL ho hbase hline).mono fun σ H Q hh=>hh.e fun U A0 δ d R ed q=>by
 obtain ⟨x,e1,e2⟩:=bind1 ed
 cases x with
 | int i=>
   cases e2
   refine ⟨U,A0,δ,_,R,e1,fun v H' s h=>?_⟩
   rw [h.int]
   exact ⟨rfl,i,rfl,rfl,q _ H' s (.int _)⟩
 | _=>cases e2
noncomputable abbrev dShr:D->D->Option D:=dIc (fun _ j=>0<=j) fun i j=>.int (i / 2 ^ j.toNat)
noncomputable def flatD:D->Bool
 | .none | .bool _ | .int _ | .str _=>true
 | _=>false
noncomputable def dV:D->V
 | .none=>.non
 | .bool b=>.bl b
 | .int i=>.int i
 | .str x=>.str x
 | _=>.non
noncomputable def eqD (a b:D):Bool:=eqV (dV a) (dV b)
noncomputable def dIn:D->D->Option D:=fun x y=>match y with
 | .list l=>if (flatD x && l.all flatD)=true then some (.bool (l.any fun z=>eqD z x)) else none
 | .tuple l=>if (flatD x && l.all flatD)=true then some (.bool (l.any fun z=>eqD z x)) else none
 | _=>none
noncomputable def dNotIn:D->D->Option D:=fun x y=>(dIn x y).bind fun | .bool c=>some (.bool (!c)) | _=>none
theorem ShD.flat {K:PySem.W.Frag} {A:List Addr} {H:Hp} {v:V} {d:D} (h:ShD K A H v d) (f:flatD d=true):v=dV d /\ flatV v=true:=by
 cases d with
 | none=>rw [h.non]; exact ⟨rfl,rfl⟩
 | bool b=>rw [h.bool]; exact ⟨rfl,rfl⟩
 | int i=>rw [h.int]; exact ⟨rfl,rfl⟩
 | str x=>rw [h.str]; exact ⟨rfl,rfl⟩
 | _=>cases f
theorem HDs.flat {K:PySem.W.Frag} {H:Hp}:∀ {xs:List V} {ds:List D},HDs K H xs ds->ds.all flatD=true->xs=ds.map dV /\ xs.all flatV=true
 | _,_,.nil,_=>⟨rfl,rfl⟩
 | _,_,.cons h t,f=>by
   rw [List.all_cons,Bool.and_eq_true] at f
   obtain ⟨e1,e2⟩:=HDs.flat t f.2
   obtain ⟨e3,e4⟩:=(ShD.of (A:=[]) (by rw [znv]; exact h)).flat f.1
   exact ⟨by rw [List.map_cons,<- e1,<- e3],by rw [List.all_cons,e4,e2]; rfl⟩
theorem zqu (x:D) (l:List D):inV (dV x) (l.map dV)=l.any fun z=>eqD z x:=by
 unfold inV eqD
 rw [List.any_map]; rfl
section
variable {X:Cx}
theorem zpH:OpR X (compareOp .In) (rIn X.K false):=zl9
theorem zjV:OpR X (compareOp .NotIn) (rIn X.K true):=zgT
end
set_option tactic.hygienic true in
theorem zko {K:PySem.W.Frag} {A:List Addr} {H:Hp} {x y:V} {dx dy d:D} (hx:ShD K A H x dx) (hy:ShD K A H y dy) (e:dIn dx dy=some d):∃ p xs b,y=.ref p /\ (SqL K H p xs \/ SqT K H p xs) /\ flatV x=true /\ xs.all flatV=true /\ d=.bool b /\ inV x xs=b:=by
 unfold dIn at e
 split at e
 ·split at e
  ·rename_i hf
   rw [Bool.and_eq_true] at hf
   cases e
   obtain ⟨p,xs,rfl,h1,h2⟩:=hy.list
   obtain ⟨e1,e2⟩:=h2.flat hf.2
   obtain ⟨e3,e4⟩:=hx.flat hf.1
   exact ⟨p,xs,_,rfl,.inl h1.sq,e4,e2,rfl,by rw [e1,e3,zqu]⟩
  ·cases e
 ·split at e
  ·rename_i hf
   rw [Bool.and_eq_true] at hf
   cases e
   obtain ⟨p,xs,rfl,h1,h2⟩:=hy.tuple
   obtain ⟨e1,e2⟩:=h2.flat hf.2
   obtain ⟨e3,e4⟩:=hx.flat hf.1
   exact ⟨p,xs,_,rfl,.inr h1,e4,e2,rfl,by rw [e1,e3,zqu]⟩
  ·cases e
 ·cases e
theorem zqb {K:PySem.W.Frag}:Imp2 K (rIn K false) dIn:=by
 intro A H x y dx dy d Q al hx hy e q
 obtain ⟨p,xs,b,h1,h2,h3,h4,rfl,h5⟩:=zko hx hy e
 refine ⟨p,xs,h1,h2,h3,h4,?_⟩
 show Q (.bl (inV x xs)) H
 rw [h5]
 exact q _ H (Same.refl H) (.bl _)
theorem zls {K:PySem.W.Frag}:Imp2 K (rIn K true) dNotIn:=by
 intro A H x y dx dy d Q al hx hy e q
 obtain ⟨c,e1,e2⟩:=bind1 e
 obtain ⟨p,xs,b,h1,h2,h3,h4,rfl,h5⟩:=zko hx hy e1
 cases e2
 refine ⟨p,xs,h1,h2,h3,h4,?_⟩
 show Q (.bl (!inV x xs)) H
 rw [h5]
 exact q _ H (Same.refl H) (.bl _)
theorem zlz (a b:Int):eqD (.int a) (.int b)=decide (a=b):=by
 simp only [eqD,dV,eqV]
 rw [Bool.beq_eq_decide_eq]
section
variable {X:Cx} {O:List Nat} {fr:Fr} {st:Stmt} {ge gx:DS->Option D} {gl:DS->Option (List D)} {i:Nat}
noncomputable def gExt (i:Nat) (g:DS->Option (List D)):DS->Option Res:=fun δ=>(gVar i δ).bind fun x=>(g δ).bind fun zs=>match x with
 | .list ds=>if ds.length + zs.length<=100000 then some (.nx (δ.set i (some (.list (ds ++ zs))))) else none
 | _=>none
set_option tactic.hygienic true in
theorem zez (h:PS X st (tDrop (tBM X.K "list" rExtend (tVar i) (tCons (tN X.K O gl) tNil)))) (hi:i∈O:=by decide):PS X st (tS X.K O fr (gExt i gl)):=h.mono fun E σ H hh=>hh.e fun H0 U A0 δ r R F ed P=>by
 obtain ⟨x,e1,e2⟩:=bind1 ed
 obtain ⟨zs,e3,e4⟩:=bind1 e2
 rcases R.owL i x hi (zr e1) with ⟨l,ys,ds,hl,rfl,hU,h1,h2⟩ | ⟨kds,rfl⟩
 rotate_left
 ·(exfalso; simp_all; done)
 simp only at e4
 split at e4
 ·rename_i hz
  cases e4
  refine ⟨.ref l,hl,.inl ⟨rfl,ys,SqL.of h1⟩,U,A0,δ,zs,R,e3,fun p ws H' s hp hp1 hp2=>?_⟩
  have h1':=s _ _ h1
  have h2':=h2.same (zav (A:=U ++ A0) s)
  have hp3:=hp2.same (zd1 (A':=U ++ A0) fun a ha=>List.mem_cons_of_mem _ ha)
  have hlen:=h2.len
  have hlen2:=hp2.len
  refine ⟨l,p,ys,ws,rfl,rfl,h1',hp1,small (by omega),?_⟩
  exact P U σ _ ((R.same s).put hi hl hU (h2'.app hp3) ⟨_,zr e1⟩) ((F.grow s).put hU _)
 ·cases e4
end
end L2
namespace L2
open PySem PySem.Spec PyProof.Rows
section
variable {X:Cx} {O:List Nat} {tg a:Expr} {ge:DS->Option D} {p pos:Pos}
end
end L2
namespace L2
open PySem PySem.Spec PyProof.Rows
section
variable {X:Cx} {pins:List (Addr×Obj)} {σ:St} {H:Hp} {s:Shared} {h':Heap}
theorem Inv.turnedL {t':Nat} {ch:List Addr} (I:Inv X pins σ H s) (k:∀ b o,b∉ch->s.heap.get? b=some o->h'.get? b=some o) (hf:∀ b∈ch,FpOk X pins H b):Inv X pins σ H { s with heap:=h',toks:=t' }:=by
 have nit:∀ b u,H b=some u->b∉ch:=fun b u e z=>by rw [(hf b z).1] at e; cases e
 refine I.step (g':=s.gens) (d':=s.drawn) (ch:=ch) (fun b hb=>?_) (fun b o _ _ hc e _=>k b o hc e) (fun b o _ _ hc e _=>⟨o.slots,k b o hc e⟩) (fun _ _ _ _ n=>n)
  (fun b o hc e=>⟨o,k b o hc e⟩) (fun _ _ e=>e) (fun _ _ _ e=>e) (fun b ps e=>⟨#[],by rw [e]; simp⟩) (fun m hm=>?_) (fun b u e=>?_) I.bare
 ·obtain ⟨_,a,_,b',c,d⟩:=hf b hb
  exact ⟨b',a,c,d⟩
 ·obtain ⟨o,es,ep,ho,r⟩:=hm
  exact ⟨o,es,ep,k _ o (fun z=>(hf _ z).2.1 rfl) ho,r⟩
 ·refine (I.hok b u e).stay (fun c v hc q=>k c v ?_ q) (fun _ q=>q) fun _ _ q=>q
  rcases hc with z | z
  ·rw [z]; exact nit b u e
  ·exact nit c _ z
theorem Inv.trackT {D:Addr} {ys:List V} {its:List Value} (I:Inv X pins σ H s) (hD:H D=none) (hs:X.s₀.heap.objs.size<=D) (hl:D≠X.env.locals) (hc:∀ x c,X.env.cells.lookup x=some c->c≠D)
  (hp:∀ p∈X.pn ++ pins,p.1≠D) (e:IsTup s.heap D its.toArray) (r:Vals ys its) (hz:ys.length<=sizeLine):Inv X pins σ (upd H D (.tup ys)) s:=by
 have h:=I.step (H':=upd H D (.tup ys)) (h':=s.heap) (g':=s.gens) (t':=s.toks) (d':=s.drawn) (ch:=[D]) (fun b hb=>by
   have e:b=D:=by simpa using hb
   subst e
   exact ⟨.inr hs,hl,hc,hp⟩)
  (fun b o _ _ _ q _=>q) (fun b o _ _ _ q _=>⟨o.slots,q⟩) (fun b o hb _ q=>by rw [zH (by simpa using hb)]; exact q) (fun b o _ q=>⟨o,q⟩)
  (fun b xs q=>by rw [zH (zU q hD)]; exact q) (fun b o u q=>by rw [zH (zU q hD)]; exact q) (fun b ps q=>⟨#[],by rw [zH (zU q hD),Array.append_empty]; exact q⟩) (fun m hm=>hm) (fun b u q=>?_) I.bare
 ·exact h
 ·by_cases hb:b=D
  ·subst hb
   rw [z8] at q; cases q
   exact ⟨hz,its,r,e⟩
  ·rw [zH hb] at q
   exact (I.hok b u q).stay (fun _ _ _ z=>z) (fun c z=>by rw [zH (zU z hD)]; exact z) fun c xs z=>z.new hD
end
noncomputable def Ite (K:PySem.W.Frag) (a:Addr):It:=
 ⟨fun i H=>∃ xs x,SqL K H a xs /\ xs[i]?=some x,fun i H x H'=>∃ p v,H p=none /\ x=.ref p /\ H'=upd H p (.tup [.int i,v]) /\ ∀ xs,SqL K H a xs->xs[i]?=some v,fun i H=>∃ xs,SqL K H a xs /\ xs.length<=i⟩
theorem zlA {P:Program} {w:World} {K:PySem.W.Frag} {es:List Expr} {kk} {tpos:Pos} (a e it:Addr) (hne:e≠it):Turn P w K (.Tuple es kk tpos) (Ite K a) [e,it] e (fun i h=>(∃ old,IsEnum h e it i old) /\ h.IsListIter it a i) where
 mem:=by simp
 obj:=fun i h st b hb=>by
  obtain ⟨⟨old,he⟩,o,ho,c,d⟩:=st
  rcases List.mem_cons.mp hb with z | z
  ·subst z; exact ⟨_,he,fun v z=>by cases z⟩
  ·have z:b=it:=by simpa using z
   subst z; exact ⟨o,ho,fun v z=>by rw [d] at z; cases z⟩
 keep:=fun i h h' st k=>by
  obtain ⟨⟨old,he⟩,st2⟩:=st
  exact ⟨⟨old,k e (by simp) _ he⟩,st2.at fun o eo=>k it (by simp) o eo⟩
 item:=by
  intro X hP hw hK hc i pins s σ H E I hf st hg
  subst hP hw hK
  obtain ⟨xs,x,hq,hx⟩:=hg
  obtain ⟨its,rv,p,hz⟩:=I.list hq
  obtain ⟨u,hu,ru⟩:=rv.get hx
  obtain ⟨⟨old,he⟩,st2⟩:=st
  refine wpAny_pyNext_enum_item he st2 p.isList (x:=u) (by simpa using hu) hne fun h1 heo hit1 ht1 hz1 hk1=>?_
  refine ⟨_,rfl,wpAny_letOwnedTupleGo_enum heo fun h2 he2 hs2=>?_⟩
  replace hs2:Heap.SameBut e h1 h2:=hs2
  have heH:e < s.heap.objs.size:=Heap.lt_size he
  have I1:Inv X pins σ H { s with heap:=h2,toks:=s.toks + 1 }:=I.turnedL (t':=s.toks + 1) (ch:=[e,it]) (fun b o hb eo=>by
   simp only [List.mem_cons,List.not_mem_nil,or_false,not_or] at hb
   exact (hs2.2 b hb.1).trans (hk1 b o hb.1 hb.2 eo)) hf
  have ht2:IsTup h2 s.heap.objs.size [Value.int i s.toks,u].toArray:=⟨_,(hs2.2 _ (Nat.ne_of_gt heH)).trans ht1,rfl,_,rfl⟩
  have hfr:H s.heap.objs.size=none:=I.hok.fresh (Nat.le_refl _)
  have fo:=I.fpOk (H':=H) (Nat.le_refl _) hfr
  have I2:Inv X pins σ (upd H s.heap.objs.size (.tup [.int i,x])) { s with heap:=h2,toks:=s.toks + 1 }:=I1.trackT hfr (Nat.le_trans I.sz (Nat.le_refl _)) fo.2.1 fo.2.2.2.2.1 fo.2.2.2.2.2 ht2 (.cons ⟨_,rfl⟩ (.cons ru .nil)) (by show 2<=sizeLine; decide)
  refine ⟨.ref s.heap.objs.size,_,I2,rfl,⟨_,x,hfr,rfl,rfl,fun ys hy=>by rw [I.list_inj hy hq]; exact hx⟩,⟨⟨u,he2⟩,hit1.extBut hs2.extBut (Ne.symm hne)⟩,fun b hb=>?_⟩
  have hlt:b < s.heap.objs.size:=by
   rcases List.mem_cons.mp hb with z | z
   ·subst z; exact heH
   ·have z:b=it:=by simpa using z
    subst z
    obtain ⟨o,ho,_⟩:=st2
    exact Heap.lt_size ho
  rw [zH (Nat.ne_of_lt hlt)]
  exact (hf b hb).1
 done:=by
  intro X hP hw hK hc i pins s σ H E I hf st hg
  subst hP hw hK
  obtain ⟨xs,hq,hx⟩:=hg
  obtain ⟨its,rv,p,hz⟩:=I.list hq
  obtain ⟨⟨old,he⟩,st2⟩:=st
  have hl:=rv.length
  refine wpAny_pyNext_enum_end (I.ok.hd hc) he st2 p.isList (by simp; omega) fun h1 eb=>⟨rfl,?_⟩
  exact I.turnedL (t':=s.toks) (ch:=[e,it]) (fun b o hb eo=>eb b o (fun z=>hb (by simp [z])) eo) hf
 self:=fun _ _ _ _ _ st h=>by
  obtain ⟨⟨old,he⟩,_⟩:=st
  exact wpAny_pyIter_enum he h
theorem zcE:bootBuiltins "enumerate"=some (.type "enumerate"):=by decide +kernel
noncomputable def enumD (l:List D):List D:=l.zipIdx.map fun p=>.tuple [.int (p.2:Nat),p.1]
theorem zgw {l:List D} {i:Nat} {d:D} (h:(enumD l)[i]?=some d):∃ x,l[i]?=some x /\ d=.tuple [.int (i:Nat),x]:=by
 unfold enumD at h
 rw [List.getElem?_map,List.getElem?_zipIdx] at h
 cases e:l[i]? with
 | none=>rw [e] at h; cases h
 | some x=>rw [e] at h; simp at h; exact ⟨x,rfl,h.symm⟩
theorem zeO {l:List D}:(enumD l).length=l.length:=by unfold enumD; simp
section
variable {X:Cx} {O:List Nat} {a:Expr} {ge:DS->Option D} {p pos:Pos} {es:List Expr} {kk} {tpos:Pos}
noncomputable def iEnum (K:PySem.W.Frag) (ta:TA):TI:=fun σ H R=>ta σ H fun vs H1=>∃ a xs,vs=[.ref a] /\ SqL K H1 a xs /\ R (Ite K a) H1
theorem zob {ta:TA} (hg:Gl X "enumerate") (hm:X.mg "enumerate"=none) (ha:PA X [a] ta) (hs:starEach [a] X.env=[(false,eval a X.env)]:=by rfl):PI X (.Tuple es kk tpos) (.Call (.Name "enumerate" p) [a] [] pos) (iEnum X.K ta):=by
 intro pins s σ H R I h
 refine Call_ (zdk I hg hm zcE (PyProof.Rows.callWith_type1 (thn (ha pos pins s σ H _ I h) fun us s1 ⟨vs,H1,I1,r1,q1⟩=>?_) hs rfl))
 obtain ⟨b,xs,e,hq,q⟩:=q1
 subst e
 obtain ⟨u,rfl,ru⟩:=vals1 r1
 cases ru
 obtain ⟨its,rv,pl,hz⟩:=I1.list hq
 refine call_enumerate_list pl.isList fun h' he hit hsz hk=>?_
 refine wpAny_pyIter_enum he ?_
 refine ⟨s1.heap.objs.size + 1,[s1.heap.objs.size + 1,s1.heap.objs.size],_,_,H1,rfl,I1.kept (t':=s1.toks) hk,zlA b _ s1.heap.objs.size (Nat.succ_ne_self _),⟨⟨_,he⟩,hit⟩,fun b hb=>?_,q⟩
 have hle:s1.heap.objs.size<=b:=by
  simp only [List.mem_cons,List.not_mem_nil,or_false] at hb
  rcases hb with z | z
  ·rw [z]; exact Nat.le_succ _
  ·rw [z]; exact Nat.le_refl _
 exact I1.fpOk hle (I1.hok.fresh hle)
noncomputable def gEnumerate (g:DS->Option D):DS->Option (List D):=fun δ=>(g δ).bind fun | .list l=>some (enumD l) | _=>none
theorem zcN (hm:X.mg "enumerate"=none) (ha:PE X a (tE X.K O ge)) (hg:Gl X "enumerate":=by rfl) (hs:starEach [a] X.env=[(false,eval a X.env)]:=by rfl) (hs0:starEach ([]:List Expr) X.env=[]:=by rfl):PI X (.Tuple es kk tpos) (.Call (.Name "enumerate" p) [a] [] pos) (tI X.K O (gEnumerate ge)):=
 (zob hg hm (zZ ha za2 (by rw [hs,hs0])) hs).mono fun σ H Q hh=>hh.e fun U A0 δ ds R ed q=>by
  obtain ⟨x,e1,e2⟩:=bind1 ed
  cases x with
  | list l=>
    cases e2
    refine ⟨U,A0,δ,_,R,e1,fun v H' s h=>?_⟩
    cases h with
    | lst hq h=>
      refine ⟨_,_,rfl,(hq.same zan).sq,q _ H' s ?_⟩
      intro A' i H2 s2 al
      have h2:=h.same s2
      have hL:SqL X.K H2 _ _:=((hq.same s2).same zan).sq
      refine ⟨fun d hd=>?_,fun hi=>⟨_,hL,by rw [hi,zeO,h2.len]; exact Nat.le_refl _⟩⟩
      obtain ⟨y,hy,rfl⟩:=zgw hd
      obtain ⟨v,hv,hvd⟩:=h2.get hy
      refine ⟨⟨_,v,hL,hv⟩,fun z H3 hz=>?_⟩
      obtain ⟨p,v',hp,rfl,rfl,hv'⟩:=hz
      have:=hv' _ hL
      rw [hv] at this
      cases this
      exact ⟨z9 hp _,HD.newT al hp (.cons (.int _) (.cons hvd .nil))⟩
  | _=>cases e2
end
noncomputable def rGetL:V->V->Hp->VK->Prop:=fun o i H Q=>∃ p xs k v,o=.ref p /\ i=.int k /\ 0<=k /\ H p=some (.lst xs) /\ atI xs k=some v /\ Q v H
theorem zlh {X:Cx}:PGet X rGetL:=by
 intro pins s σ H o i v u Q I ro ri h
 obtain ⟨p,xs,k,w,rfl,rfl,h0,hp,ha,q⟩:=h
 cases ro
 obtain ⟨t,rfl⟩:=ri
 obtain ⟨its,r,pl,hz⟩:=I.list (SqL.of hp)
 obtain ⟨j,h1,h2,h3,h4,h5⟩:=zf1 ha
 obtain ⟨u',hu,ru⟩:=r.get h2
 have hn:=line63
 have hj:k.toNat=j:=by
  rw [seqIndex_of h0 h5] at h1
  exact Option.some.inj h1
 exact wpAny_getItem_list pl.isList h0 (by omega) (by rw [hj]; simpa using hu) ⟨w,H,I,ru,q⟩
noncomputable def gAugIx (i:Nat) (f:Int->Int->Int) (gx ge:DS->Option D):DS->Option Res:=fun δ=>(gVar i δ).bind fun x=>(gx δ).bind fun k=>(ge δ).bind fun y=>match x,k,y with
 | .list ds,.int n,.int b=>if 0<=n then (ixN ds.length n).bind fun j=>(ds[j]?).bind fun | .int a=>some (.nx (δ.set i (some (.list (ds.set j (.int (f a b))))))) | _=>none else none
 | _,_,_=>none
set_option tactic.hygienic true in
theorem zix {X:Cx} {O:List Nat} {fr:Fr} {st:Stmt} {ge gx:DS->Option D} {i:Nat} {f:Int->Int->Int} (h:PS X st (tAugS (tVar i) (tSh X.K O gx) (tSh X.K O ge) rGetL (ipI f) rSetL)) (hi:i∈O:=by decide):PS X st (tS X.K O fr (gAugIx i f gx ge)):=h.mono fun E σ H hh=>hh.e fun H0 U A0 δ r R F ed P=>by
 obtain ⟨x,e1,ed⟩:=bind1 ed
 obtain ⟨k,e2,ed⟩:=bind1 ed
 obtain ⟨y,e3,ed⟩:=bind1 ed
 rcases R.owL i x hi (zr e1) with ⟨l,ys,ds,hl,rfl,hU,h1,h2⟩ | ⟨kds,rfl⟩
 rotate_left
 ·(exfalso; simp_all; done)
 cases k with
 | int n=>cases y with
   | int b=>
     simp only at ed
     split at ed
     ·rename_i h0
      obtain ⟨j,e4,ed⟩:=bind1 ed
      obtain ⟨a,e5,ed⟩:=bind1 ed
      cases a with
      | int a=>
        cases ed
        obtain ⟨v,hv,hd⟩:=h2.get e5
        cases hd
        refine ⟨.ref l,hl,U,A0,δ,_,R,e2,fun v2 H2 s2 h2'=>⟨l,ys,n,.int a,rfl,h2'.int,h0,s2 _ _ h1,?_,U,A0,δ,_,R.same s2,e3,fun v3 H3 s3 h3'=>⟨a,b,rfl,h3'.int,l,ys,n,j,rfl,h2'.int,(s2.trans s3) _ _ h1,by rw [h2.len]; exact e4,?_⟩⟩⟩
        ·unfold L2.atI; rw [h2.len,e4]; exact hv
        ·exact P U σ _ ((R.same (s2.trans s3)).put hi hl hU (HDs.setD (.int _) j (h2.same (zav (s2.trans s3)))) ⟨_,zr e1⟩) ((F.grow (s2.trans s3)).put hU _)
      | _=>cases ed
     ·cases ed
   | _=>cases ed
 | _=>cases y <;> cases ed
noncomputable def WalksS (K:PySem.W.Frag) (A:List Addr) (H1:Hp) (J:It) (ds:List D):Prop:=∀ (i:Nat) (H:Hp),Same H1 H->
 (∀ d,ds[i]?=some d->J.go i H /\ ∀ x H2,J.yld i H x H2->Same H H2 /\ HD K (wo H2 A) x d) /\ (i=ds.length->J.stop i H)
noncomputable def tIc (K:PySem.W.Frag) (O:List Nat) (g:DS->Option (List D)):TI:=fun σ H R=>∃ U A0 δ ds,Rel K O U A0 σ δ H /\ g δ=some ds /\ ∀ J H1,Same H H1->WalksS K (U ++ A0) H1 J ds->R J H1
theorem tIc.e {K:PySem.W.Frag} {O:List Nat} {g:DS->Option (List D)}  {σ:_} {H:_} {R:_} {GG:Prop} (hh:tIc K O g σ H R) (kk:∀ U A0 δ ds,(Rel K O U A0 σ δ H)->(g δ=some ds)->(∀ J H1,Same H H1->WalksS K (U ++ A0) H1 J ds->R J H1)->GG):GG:=by obtain ⟨U,A0,δ,ds,x0,x1,x2⟩:=hh; exact kk U A0 δ ds x0 x1 x2
section
variable {X:Cx} {O:List Nat} {tg e:Expr} {gi:DS->Option (List D)} {ge:DS->Option D} {pos:Pos}
theorem PI.c (h:PI X tg e (tI X.K O gi)):PI X tg e (tIc X.K O gi):=h.mono fun σ H Q hh=>hh.e fun U A0 δ ds R ed q=>⟨U,A0,δ,ds,R,ed,fun J H1 s hw=>q J H1 s fun i H2 s2=>hw (U ++ A0) i H2 (zav s2) ((R.same (s.trans s2)).al)⟩
theorem zkv (h:PE X e (tSh X.K O ge)):PI X tg e (tIc X.K O (gItems ge)):=(znG h).mono fun σ H Q hh=>hh.e fun U A0 δ ds R ed q=>by
 obtain ⟨x,e1,e2⟩:=bind1 ed
 cases x with
 | list l=>
   cases e2
   refine ⟨U,A0,δ,_,R,e1,fun v H' s h=>?_⟩
   obtain ⟨p,xs,rfl,h1,h2⟩:=h.list
   refine .inl ⟨_,rfl,⟨_,h1.sq⟩,q _ H' s ?_⟩
   intro i H2 s2
   have h2':=h2.same (zav (A:=U ++ A0) s2)
   have hL:SqL X.K H2 _ _:=(h1.same s2).sq
   refine ⟨fun d hd=>?_,fun hi=>⟨_,hL,by rw [h2'.len]; omega⟩⟩
   obtain ⟨x,hx,hxd⟩:=h2'.get hd
   refine ⟨⟨_,x,hL,hx⟩,fun y H3 hy=>?_⟩
   obtain ⟨rfl,hy⟩:=hy
   have:=hy _ hL
   rw [hx] at this
   cases this
   exact ⟨Same.refl _,hxd⟩
 | tuple l=>
   cases e2
   refine ⟨U,A0,δ,_,R,e1,fun v H' s h=>?_⟩
   obtain ⟨p,xs,rfl,h1,h2⟩:=h.tuple
   refine .inr ⟨_,rfl,⟨_,h1⟩,q _ H' s ?_⟩
   intro i H2 s2
   have h2':=h2.same (zav (A:=U ++ A0) s2)
   have hL:SqT X.K H2 _ _:=s2.tup h1
   refine ⟨fun d hd=>?_,fun hi=>⟨_,hL,by rw [h2'.len]; omega⟩⟩
   obtain ⟨x,hx,hxd⟩:=h2'.get hd
   refine ⟨⟨_,x,hL,hx⟩,fun y H3 hy=>?_⟩
   obtain ⟨rfl,hy⟩:=hy
   have:=hy _ hL
   rw [hx] at this
   cases this
   exact ⟨Same.refl _,hxd⟩
 | _=>cases e2
end
section
variable {X:Cx} {O:List Nat} {fr:Fr} {scope:Scope} {x:Str} {elt iter:Expr} {px pos:Pos} {gi:DS->Option (List D)} {ge:DS->Option D}
end
end L2
namespace LS
open PySem PySem.Spec PyProof.Rows
section
variable {prog:Program} {w:World} {A:Around} {E:Value->Shared->Prop} {s:Shared} {it t:Addr} {i:Nat} {items:Array Value}
theorem zjy {x:Value} {Q:Value->Shared->Prop} (hit:s.heap.IsTupleIter it t i) (ht:s.heap.IsTuple t items) (hx:items[i]?=some x)
  (hQ:∀ h',h'.IsTupleIter it t (i + 1)->Heap.SameBut it s.heap h'->Q x { s with heap:=h' }):wpAny (model prog w) A (Builtin.SmallTypes.nextOf (.ref it)) Q E s:=by
 obtain ⟨o,ho,hc,hd⟩:=id hit
 obtain ⟨ol,hol,_,nl,hdl⟩:=ht
 unfold Builtin.SmallTypes.nextOf
 refine wpAny_bind (wpAny_callSpecial?_slot (name:=Str.ofString "__next__") hit.typeIs PySem.F.slot_tuple_iterator_next (wpAny_call_entry PySem.F.slot_tuple_iterator_next hit.typeIs PySem.F.entry_tuple_iterator_next ?_ (PySem.F.args_tuple_iterator_next_1 _)))
 show wpAny _ _ (field (.ref it) 0 >>= _) _ _ s
 refine wpAny_bind (wpAny_field ho hd (x:=.ref t) rfl ?_)
 show wpAny _ _ (if (Value.ref t == Value.none)=true then _ else _) _ _ s
 rw [if_neg (show ¬ ((Value.ref t == Value.none)=true) from Bool.false_ne_true)]
 show wpAny _ _ (field (.ref it) 1 >>= _) _ _ s
 refine wpAny_bind (wpAny_field ho hd (x:=.int i 0) rfl ?_)
 show wpAny _ _ (seqItems? (.ref t) >>= _) _ _ s
 refine wpAny_bind (wpAny_seqItems hol hdl ?_)
 simp only [Int.toNat_natCast,hx]
 refine wpAny_bind (wpAny_setField ho hd (by simp) (wpAny_pure ⟨x,rfl,wpAny_pure (hQ _ ?_ (Heap.SameBut.update ..))⟩))
 exact ⟨_,Heap.get?_update_self _ ho (Obj.isFreed_of_fields (Obj.data_mapFields hd _)),(Obj.cls_mapFields ..).trans hc,by rw [Obj.data_mapFields hd]; simp [rawInt]⟩
theorem zkY {Q:Value->Shared->Prop} (hh:A.handled=none) (hit:s.heap.IsTupleIter it t i) (ht:s.heap.IsTuple t items) (hx:items[i]?=none)
  (hE:∀ h' e,Heap.ExtBut it s.heap h'->(∃ o,h'.get? e=some o /\ o.cls=.type "StopIteration")->E (.ref e) { s with heap:=h' }):wpAny (model prog w) A (Builtin.SmallTypes.nextOf (.ref it)) Q E s:=by
 obtain ⟨o,ho,hc,hd⟩:=id hit
 obtain ⟨ol,hol,_,nl,hdl⟩:=ht
 unfold Builtin.SmallTypes.nextOf
 refine wpAny_bind (wpAny_callSpecial?_slot (name:=Str.ofString "__next__") hit.typeIs PySem.F.slot_tuple_iterator_next (wpAny_call_entry PySem.F.slot_tuple_iterator_next hit.typeIs PySem.F.entry_tuple_iterator_next ?_ (PySem.F.args_tuple_iterator_next_1 _)))
 show wpAny _ _ (field (.ref it) 0 >>= _) _ _ s
 refine wpAny_bind (wpAny_field ho hd (x:=.ref t) rfl ?_)
 show wpAny _ _ (if (Value.ref t == Value.none)=true then _ else _) _ _ s
 rw [if_neg (show ¬ ((Value.ref t == Value.none)=true) from Bool.false_ne_true)]
 show wpAny _ _ (field (.ref it) 1 >>= _) _ _ s
 refine wpAny_bind (wpAny_field ho hd (x:=.int i 0) rfl ?_)
 show wpAny _ _ (seqItems? (.ref t) >>= _) _ _ s
 refine wpAny_bind (wpAny_seqItems hol hdl ?_)
 simp only [Int.toNat_natCast,hx]
 refine wpAny_bind (wpAny_rule (wpAny_bind (wpAny_setField ho hd (by simp) ?_)))
 show wpAny _ _ (newExc (.type "StopIteration") [] >>= _) _ _ _
 refine wpAny_bind ?_
 simp only [newExc,newTuple]
 refine wpAny_bind (wpAny_newObj_type ?_ (by size_fits))
 refine wpAny_bind (m:=firstArgMember _ _) (wpAny_of_eq (a:=Value.none) (by first | rfl | (simp only [firstArgMember]; rfl)) ?_)
 refine wpAny_newObj_type ?_ (by size_fits)
 simp only [raiseNew]
 refine wpAny_bind (wpAny_handled ?_)
 first | rw [show A.in1.handled=none from hh] | rw [hh]
 refine wpAny_bind (wpAny_pure (wpAny_throw ?_))
 exact hE _ _ (((Heap.SameBut.update ..).extBut.push _).push _) ⟨_,Heap.get?_push_size _ rfl,rfl⟩
theorem zcs (hh:A.handled=none) (it l:Addr) (hne:l≠it) (items:Array Value):
  Draws prog w A it [it,l] items.size (fun i v=>items[i]?=some v) (fun i h=>h.IsTupleIter it l i /\ h.IsTuple l items) where
 live:=fun _ _ st=>let ⟨o,ho,_⟩:=st.1; ⟨o,ho⟩
 frame:=fun _ _ _ st hk=>⟨st.1.at fun o e=>hk it (by simp) o e,st.2.at fun o e=>hk l (by simp) o e⟩
 item:=fun i s Q E hi st hQ=>zjy st.1 st.2 (x:=items[i]) (by simp [hi]) fun h' hit' hs'=>hQ _ h' s.toks (by simp [hi]) ⟨hit',st.2.extBut hs'.extBut hne⟩ hs'
 done:=fun s Q E st hE=>zkY hh st.1 st.2 (by simp) hE
end
set_option maxHeartbeats 1000000 in
set_option tactic.hygienic true in
theorem newT (l:Addr) (items:Array Value) (n:Nat) (dct:Option Addr) (sl:Array (Option Value)):
  Meets (Builtin.«enumerate.__new__» ⟨[.type "enumerate",.ref l],[]⟩) (fun _ R s=>s.heap.get? l=some { cls:=.type "tuple",dict:=dct,data:=.seq items n,slots:=sl } /\
   R (.ok (.ret (.ref (s.heap.push { cls:=.type "tuple_iterator",data:=.fields #[.ref l,.int 0 0] }).objs.size)))
     { s with heap:=(s.heap.push { cls:=.type "tuple_iterator",data:=.fields #[.ref l,.int 0 0] }).push { cls:=.type "enumerate",data:=.fields #[.none,.bool false,.ref s.heap.objs.size,rawInt 0,.none,.none] } }):=
 .of_wp fun prog w A R s h=>by
  obtain ⟨hp,g,d,tk,os⟩:=s; obtain ⟨hl,h⟩:=h
  have hsub:=sub_enumerate
  have hL:Heap.IsTuple (Shared.heap ⟨hp,g,d,tk,os⟩) l items:=⟨_,hl,rfl,n,rfl⟩
  wp_walk using AutoSeq1.wpAny_loadPart' hl
  refine wpAny_stack_any fun st=>wpAny_pure ?_
  split
  ·rename_i c _ _ _ _ _
   cases (c == Value.type "enumerate")
   ·wp_walk using AutoSeq1.wpAny_loadPart' hl,wpAny_pyIter_tuple hL
    exact ⟨_,rfl,h⟩
   ·wp_walk using AutoSeq1.wpAny_loadPart' hl,wpAny_pyIter_tuple hL
    exact ⟨_,rfl,h⟩
  ·wp_walk using AutoSeq1.wpAny_loadPart' hl,wpAny_pyIter_tuple hL
   exact ⟨_,rfl,h⟩
section
variable {prog:Program} {w:World} {A:Around} {E:Value->Shared->Prop} {s:Shared}
theorem zi2 {l:Addr} {items:Array Value} {Q:Value->Shared->Prop} (hL:s.heap.IsTuple l items)
  (h:∀ h',IsEnum h' (s.heap.objs.size + 1) s.heap.objs.size 0 .none->h'.IsTupleIter s.heap.objs.size l 0->h'.objs.size=s.heap.objs.size + 2->(∀ b o,s.heap.get? b=some o->h'.get? b=some o)->Q (.ref (s.heap.objs.size + 1)) { s with heap:=h' }):
  wpAny (model prog w) A (call (.type "enumerate") [.ref l]) Q E s:=by
 obtain ⟨⟨c,dct,dt,sl⟩,hl,hc,n,hd⟩:=hL
 simp only at hc hd
 subst hc hd
 refine callType_new PySem.F.called_enumerate (by decide) (PySem.F.typeCall_enumerate_1 _) (PySem.F.newCall_enumerate_1 _) (fun obj=>PySem.F.args_object_init_2 obj _) PySem.F.entry_enumerate_new (newT l items n dct sl) ⟨hl,?_⟩
 have hz:(s.heap.push { cls:=.type "tuple_iterator",data:=.fields #[.ref l,.int 0 0] }).objs.size=s.heap.objs.size + 1:=Heap.size_push ..
 show _ /\ _
 rw [hz]
 have he:IsEnum ((s.heap.push { cls:=.type "tuple_iterator",data:=.fields #[.ref l,.int 0 0] }).push { cls:=.type "enumerate",data:=.fields #[.none,.bool false,.ref s.heap.objs.size,rawInt 0,.none,.none] }) (s.heap.objs.size + 1) s.heap.objs.size 0 .none:=by
  have q:=Heap.get?_push_size (s.heap.push { cls:=.type "tuple_iterator",data:=.fields #[.ref l,.int 0 0] }) (o:={ cls:=.type "enumerate",data:=.fields #[.none,.bool false,.ref s.heap.objs.size,rawInt 0,.none,.none] }) rfl
  rw [hz] at q; exact q
 exact ⟨⟨_,he,rfl⟩,h _ he ⟨_,Heap.get?_push_of_some _ (Heap.get?_push_size _ rfl),rfl,rfl⟩ (by rw [Heap.size_push,hz]) fun b o x=>Heap.get?_push_of_some _ (Heap.get?_push_of_some _ x)⟩
end
end LS
namespace LS
open PySem
noncomputable def Ris (l:List Nat):Prop:=l.Pairwise (· < ·)
theorem zdO {xs:Array Nat} (h:Ris xs.toList) {a b:Nat} (hab:a < b) (hb:b < xs.size) (d e:Nat):xs.getD a d < xs.getD b e:=by
 have ha:a < xs.size:=by omega
 have:=List.pairwise_iff_getElem.mp h a b (by simpa using ha) (by simpa using hb) hab
 simpa [Array.getD,ha,hb] using this
theorem znj {xs:Array Nat} (hs:Ris xs.toList) (j:Nat) (fuel:Nat):∀ (lo hi:Nat),hi - lo<=fuel->lo<=hi->hi<=xs.size->(∀ k,k < lo->xs.getD k 0 < j)->(∀ k,hi<=k->k < xs.size->j<=xs.getD k 0)->
  SetTable.below.go xs j fuel lo hi<=xs.size /\ (∀ k,k < SetTable.below.go xs j fuel lo hi->xs.getD k 0 < j) /\ ∀ k,SetTable.below.go xs j fuel lo hi<=k->k < xs.size->j<=xs.getD k 0:=by
 induction fuel with
 | zero=>
   intro lo hi h1 h2 h3 h4 h5
   have e:lo=hi:=Nat.le_antisymm h2 (Nat.le_of_sub_eq_zero (Nat.le_zero.mp h1))
   subst e
   exact ⟨h3,h4,h5⟩
 | succ fuel ih=>
   intro lo hi h1 h2 h3 h4 h5
   rw [SetTable.below.go]
   by_cases hl:lo < hi
   ·rw [if_pos hl]
    have a:lo<=(lo + hi) / 2 /\ (lo + hi) / 2 < hi:=by omega
    dsimp only
    generalize (lo + hi) / 2=m at a
    have hm:m < xs.size:=Nat.lt_of_lt_of_le a.2 h3
    have hg:xs.getD m j=xs.getD m 0:=by simp [Array.getD,hm]
    rw [hg]
    by_cases hc:xs.getD m 0 < j
    ·rw [if_pos hc]
     refine ih _ hi (by omega) a.2 h3 (fun k hk=>?_) h5
     rcases Nat.lt_or_eq_of_le (Nat.le_of_lt_succ hk) with q | q
     ·exact Nat.lt_trans (zdO hs q hm 0 0) hc
     ·rw [q]; exact hc
    ·rw [if_neg hc]
     have hc:=Nat.le_of_not_lt hc
     refine ih lo _ (by omega) a.1 (Nat.le_of_lt hm) h4 (fun k hk hk'=>?_)
     rcases Nat.lt_or_eq_of_le hk with q | q
     ·exact Nat.le_trans hc (Nat.le_of_lt (zdO hs q hk' 0 0))
     ·rw [<- q]; exact hc
   ·rw [if_neg hl]
    have e:lo=hi:=Nat.le_antisymm h2 (Nat.le_of_not_lt hl)
    subst e
    exact ⟨h3,h4,h5⟩
theorem ziT {xs:Array Nat} (hs:Ris xs.toList) (j:Nat):SetTable.below xs j<=xs.size /\ (∀ k,k < SetTable.below xs j->xs.getD k 0 < j) /\ ∀ k,SetTable.below xs j<=k->k < xs.size->j<=xs.getD k 0:=
 znj hs j xs.size 0 xs.size (by omega) (Nat.zero_le _) (Nat.le_refl _) (fun k hk=>by omega) fun k h1 h2=>by omega
theorem zfO {xs:Array Nat} (hs:Ris xs.toList) {i j:Nat} (hi:i<=xs.size) (h1:∀ k,k < i->xs.getD k 0 < j) (h2:∀ k,i<=k->k < xs.size->j<=xs.getD k 0):SetTable.below xs j=i:=by
 obtain ⟨a,b,c⟩:=ziT hs j
 rcases Nat.lt_trichotomy (SetTable.below xs j) i with h | h | h
 ·have:=h1 _ h
  have:=c _ (Nat.le_refl _) (by omega)
  omega
 ·exact h
 ·have:=b i h
  have:=h2 i (Nat.le_refl _) (by omega)
  omega
theorem zmf {xs:Array Nat} (hs:Ris xs.toList) {j:Nat} (h:xs[SetTable.below xs j]?≠some j):j∉xs.toList:=by
 intro hm
 obtain ⟨k,hk,e⟩:=List.getElem_of_mem hm
 have hk':k < xs.size:=by simpa using hk
 have ek:xs.getD k 0=j:=by simpa [Array.getD,hk'] using e
 have:SetTable.below xs j=k:=zfO hs (Nat.le_of_lt hk') (fun i hi=>by rw [<- ek]; exact zdO hs hi hk' 0 0) (fun i h1 h2=>by
  by_cases hik:k=i
  ·subst hik; omega
  ·have:=zdO hs (show k < i by omega) h2 0 0
   omega)
 rw [this] at h
 refine h ?_
 rw [Array.getElem?_eq_getElem hk']
 simpa using e
theorem zog {t:SetTable} (hs:Ris t.place.toList) {j:Nat} (h:t.place[SetTable.below t.place j]?≠some j):Ris (t.put j).1.place.toList:=by
 have hn:=zmf hs h
 obtain ⟨a,b,c⟩:=ziT hs j
 show Ris (SetTable.insertAt t.place (SetTable.below t.place j) j).toList
 rw [SetTable.toList_insertAt]
 have hs':(t.place.toList.take (SetTable.below t.place j) ++ t.place.toList.drop (SetTable.below t.place j)).Pairwise (· < ·):=by rw [List.take_append_drop]; exact hs
 rw [List.pairwise_append] at hs'
 refine List.pairwise_append.mpr ⟨hs'.1,List.pairwise_cons.mpr ⟨fun x hx=>?_,hs'.2.1⟩,fun x hx y hy=>?_⟩
 ·obtain ⟨k,hk,e⟩:=List.getElem_of_mem hx
  rw [List.getElem_drop] at e
  have hk2:SetTable.below t.place j + k < t.place.size:=by
   have:=List.length_drop (i:=SetTable.below t.place j) (l:=t.place.toList)
   have hk3:=hk
   rw [this] at hk3
   simp at hk3
   omega
  have:=c (SetTable.below t.place j + k) (by omega) hk2
  have e2:t.place.getD (SetTable.below t.place j + k) 0=x:=by simpa [Array.getD,hk2] using e
  have hne:x≠j:=fun z=>hn (by rw [<- z]; exact List.mem_of_mem_drop hx)
  omega
 ·obtain ⟨k,hk,e⟩:=List.getElem_of_mem hx
  have hk2:k < SetTable.below t.place j:=by
   have:=List.length_take (i:=SetTable.below t.place j) (l:=t.place.toList)
   omega
  have hk3:k < t.place.size:=by omega
  rw [List.getElem_take] at e
  have e2:t.place.getD k 0=x:=by simpa [Array.getD,hk3] using e
  have hxj:=b k hk2
  rw [e2] at hxj
  rcases List.mem_cons.mp hy with z | z
  ·rw [z]; exact hxj
  ·exact hs'.2.2 x hx y z
set_option tactic.hygienic true in
theorem zdR {t:SetTable} {f:Nat->Int} {h:Int}:∀ {fuel:Nat} {p:SetTable.Probe} {j:Nat} {dm:Option Nat},(∀ d,p.dummy=some d->t.place[SetTable.below t.place d]?≠some d)->
  SetTable.probe.go t f h fuel p=some (.empty j dm)->t.place[SetTable.below t.place (dm.getD j)]?≠some (dm.getD j)
 | 0,p,j,dm,_,e=>by cases e
 | fuel + 1,p,j,dm,hd,e=>by
   have hdm:∀ q:SetTable.Probe,(t.advance q).dummy=q.dummy:=fun q=>by unfold SetTable.advance; split <;> rfl
   rw [SetTable.probe.go] at e
   have nl:∀ i,t.slot i=.empty \/ t.slot i=.dummy->t.place[SetTable.below t.place i]?≠some i:=by
    intro i hi z
    unfold SetTable.slot at hi
    dsimp only at hi
    rw [z] at hi
    simp at hi
   split at e
   ·rename_i hs
    cases e
    cases hp:p.dummy with
    | none=>exact nl _ (.inl hs)
    | some d=>exact hd d hp
   ·rename_i hs
    refine zdR (fun d hd'=>?_) e
    rw [hdm] at hd'
    cases hd'
    exact nl _ (.inr hs)
   ·split at e
    ·cases e
    ·exact zdR (fun d hd'=>hd d (by rw [hdm] at hd'; exact hd')) e
theorem zdm (n:Nat):Ris (Array.range n).toList:=by rw [Array.toList_range]; exact List.pairwise_lt_range
theorem zfN {t:SetTable} {n:Nat} (h:Ris t.place.toList):Ris (t.orStandIn n).place.toList /\ (t.orStandIn n).led=t.led:=by
 unfold SetTable.orStandIn
 split
 ·exact ⟨h,rfl⟩
 ·exact ⟨zdm n,rfl⟩
set_option tactic.hygienic true in
theorem zjA {t:SetTable} {es:Array (Int×Value)} {h:Int} {x:Value} (hs:Ris t.place.toList):Ris (layNew t es h x).2.1.place.toList /\ (layNew t es h x).2.1.led=t.led:=by
 unfold layNew
 split
 ·rename_i slot wd e
  unfold SetTable.freeSlot at e
  split at e
  ·rename_i j dm ep
   cases e
   have:=zdR (t:=t) (fun d z=>by cases z) ep
   obtain ⟨a,b⟩:=zfN (n:=(SetTable.insertAt es (t.put (dm.getD j)).2 (h,x)).size) (zog hs this)
   exact ⟨a,b⟩
  ·cases e
 ·exact ⟨zdm _,rfl⟩
set_option tactic.hygienic true in
theorem zg3 {t:SetTable} {es:Array (Int×Value)} {n:Nat}:Ris (relayAll t es n).2.1.place.toList /\ (relayAll t es n).2.1.led=t.led:=by
 unfold relayAll
 split
 ·rename_i t' order e
  dsimp only
  split
  ·unfold SetTable.relaid SetTable.laid at e
   obtain ⟨owner,_,e2⟩:=Option.bind_eq_some_iff.mp e
   cases e2
   refine ⟨?_,rfl⟩
   show Ris (List.map _ _)
   refine List.pairwise_map.mpr (List.pairwise_filterMap.mpr ?_)
   refine List.pairwise_lt_range.imp fun {a b} hab x hx y hy=>?_
   cases ea:owner.getD a none with
   | none=>rw [ea] at hx; cases hx
   | some u=>
     cases eb:owner.getD b none with
     | none=>rw [eb] at hy; cases hy
     | some v=>
       rw [ea] at hx; rw [eb] at hy
       cases hx; cases hy
       exact hab
  ·exact ⟨zdm _,rfl⟩
 ·exact ⟨zdm _,rfl⟩
end LS
namespace LS
open PySem PyProof.Rows
noncomputable def iv:Value->Int
 | .int n _=>n
 | _=>0
theorem zaR:∀ {vs:List Value} {ns:List Int},IntsAre vs ns↔(∀ v∈vs,∃ n t,v=.int n t) /\ ns=vs.map iv
 | [],ns=>⟨fun h=>by cases h; exact ⟨fun v hv=>by simp at hv,rfl⟩,fun ⟨_,h⟩=>by subst h; exact .nil⟩
 | v :: vs,ns=>⟨fun h=>by
     cases h with
     | cons n t h=>
       obtain ⟨h1,h2⟩:=zaR.mp h
       refine ⟨fun u hu=>?_,by rw [h2]; rfl⟩
       rcases List.mem_cons.mp hu with z | z
       ·exact ⟨n,t,z⟩
       ·exact h1 u z,fun ⟨h1,h2⟩=>by
     obtain ⟨n,t,rfl⟩:=h1 v List.mem_cons_self
     subst h2
     exact .cons n t (zaR.mpr ⟨fun u hu=>h1 u (List.mem_cons_of_mem _ hu),rfl⟩)⟩
theorem zeQ {vs vs':List Value} {ns:List Int} (h:IntsAre vs ns) (p:vs'.Perm vs):∃ ns',IntsAre vs' ns' /\ ns'.Perm ns:=by
 obtain ⟨h1,h2⟩:=zaR.mp h
 exact ⟨vs'.map iv,zaR.mpr ⟨fun v hv=>h1 v (p.mem_iff.mp hv),rfl⟩,by rw [h2]; exact p.map iv⟩
noncomputable def ISet (prog:Program) (w:World) (h:Heap) (a:Addr) (led:Bool) (ns:List Int):Prop:=∃ o es ep t,h.get? a=some o /\ o.ExactSet /\ o.data=.set es ep t /\ ElemsOf (intKind prog w) es.toList /\
 IntsAre (es.toList.map (·.2)) ns /\ ns.Nodup /\ es.size < scanBound /\ t.fits es.size=true /\ t.led=led /\ Ris t.place.toList
section
variable {prog:Program} {w:World} {A:Around} {E:Value->Shared->Prop} {s:Shared} {a:Addr} {led:Bool} {ns:List Int}
theorem ISet.keeps {h h':Heap} (x:ISet prog w h a led ns) (k:∀ o,h.get? a=some o->h'.get? a=some o):ISet prog w h' a led ns:=by
 obtain ⟨o,es,ep,t,ho,r⟩:=x
 exact ⟨o,es,ep,t,k o ho,r⟩
theorem zit {h:Heap} {o:Obj} {es:Array (Int×Value)} {ep:Nat} {t:SetTable} (ho:h.get? a=some o) (hex:o.ExactSet) (hd:o.data=.set es ep t) {es':Array (Int×Value)} {t':SetTable} {ns':List Int}
  (h1:ElemsOf (intKind prog w) es'.toList) (h2:IntsAre (es'.toList.map (·.2)) ns') (h3:ns'.Nodup) (h4:es'.size < scanBound) (h5:t'.fits es'.size=true) (h6:t'.led=led) (h7:Ris t'.place.toList):
  (h.update a (Obj.putSet es' t')).get? a=some { o with data:=.set es' (ep + 1) t' } /\ ISet prog w (h.update a (Obj.putSet es' t')) a led ns':=by
 have hg:(h.update a (Obj.putSet es' t')).get? a=some { o with data:=.set es' (ep + 1) t' }:=by
  have q:=Heap.get?_update_self (Obj.putSet es' t') ho (by rw [putSet_of es' t' hd]; rfl)
  rwa [putSet_of es' t' hd] at q
 exact ⟨hg,_,es',ep + 1,t',hg,hex,rfl,h1,h2,h3,h4,h5,h6,h7⟩
theorem zgj {g:Bool->Sem Unit} (hg:∀ (b:Bool) (s₁:Shared) (Q':Unit->Shared->Prop),Q' () s₁->wpAny (model prog w) A (g b) Q' E s₁) {o:Obj} {es:Array (Int×Value)} {ep:Nat} {t:SetTable}
  (ho:s.heap.get? a=some o) (hex:o.ExactSet) (hd:o.data=.set es ep t) {es1:Array (Int×Value)} {t2:SetTable} {ns1:List Int} (h1:ElemsOf (intKind prog w) es1.toList) (h2:IntsAre (es1.toList.map (·.2)) ns1) (h3:ns1.Nodup) (h4:es1.size < scanBound)
  (h5:t2.fits es1.size=true) (h6:t2.led=led) (h7:Ris t2.place.toList) {wd:Bool} {R:Option Bool->Shared->Prop}
  (h:∀ h' ns',Heap.SameBut a s.heap h'->ISet prog w h' a led ns'->ns'.Perm ns1->R (some true) { s with heap:=h' }):
  wpAny (model prog w) A (do
    storeSet a es1 t2
    if (!wd && t2.tooFull)=true then do
        g (relayAll t2 es1 (SetTable.grown es1.size)).2.2
        storeSet a (relayAll t2 es1 (SetTable.grown es1.size)).1 (relayAll t2 es1 (SetTable.grown es1.size)).2.1
        pure (some true)
     else pure (some true)) R E s:=by
 refine wpAny_bind (wpAny_storeSet_of ho hd ?_ (fits_of_scanBound h4))
 obtain ⟨ho1,S1⟩:=zit (led:=led) ho hex hd h1 h2 h3 h4 h5 h6 h7
 have b1:=Heap.SameBut.update s.heap a (Obj.putSet es1 t2)
 split
 ·have hp:=relayAll_perm t2 es1 (SetTable.grown es1.size)
  have hf:=relayAll_fits t2 es1 (SetTable.grown es1.size)
  obtain ⟨hr,hl⟩:=zg3 (t:=t2) (es:=es1) (n:=SetTable.grown es1.size)
  generalize relayAll t2 es1 (SetTable.grown es1.size)=Z at hp hf hr hl ⊢
  obtain ⟨es2,t3,gave⟩:=Z
  dsimp only at hp hf hr hl ⊢
  obtain ⟨ns2,i2,p2⟩:=zeQ h2 (hp.map (·.2))
  have hz:es2.size=es1.size:=by rw [<- Array.length_toList,hp.length_eq,Array.length_toList]
  have b2:es2.size < scanBound:=by rw [hz]; exact h4
  refine wpAny_bind (hg _ _ _ (wpAny_bind (wpAny_storeSet_of ho1 rfl ?_ (fits_of_scanBound b2))))
  obtain ⟨_,S2⟩:=zit (led:=led) ho1 hex rfl (h1.perm hp) i2 (p2.nodup_iff.mpr h3) b2 hf (hl.trans h6) hr
  exact wpAny_pure (h _ ns2 (b1.trans (Heap.SameBut.update _ a _)) S2 p2)
 ·exact wpAny_pure (h _ ns1 b1 S1 (.refl _))
theorem zim {es:List (Int×Value)} {i:Int} (h:IntsAre (es.map (·.2)) ns):i∈ns↔∃ e∈es,Value.isInt i e.2=true:=by
 obtain ⟨h1,h2⟩:=zaR.mp h
 subst h2
 constructor
 ·intro hm
  obtain ⟨v,hv,e⟩:=List.mem_map.mp hm
  obtain ⟨x,hx,rfl⟩:=List.mem_map.mp hv
  obtain ⟨n,t,q⟩:=h1 _ hv
  rw [q] at e
  cases e
  exact ⟨x,hx,by rw [q]; simp [Value.isInt,iv]⟩
 ·rintro ⟨e,he,q⟩
  obtain ⟨t,z⟩:=Value.isInt_shape q
  exact List.mem_map.mpr ⟨e.2,List.mem_map.mpr ⟨e,he,rfl⟩,by rw [z]; rfl⟩
theorem zmH {i:Int} {tk:Tok} {Q:Bool->Shared->Prop} (hS:ISet prog w s.heap a led ns) (room:ns.length + 1 < scanBound)
  (h:∀ h' ns' b,Heap.SameBut a s.heap h'->ISet prog w h' a led ns'->(∀ k,k∈ns'↔k∈ns \/ k=i)->ns'.length<=ns.length + 1->Q b { s with heap:=h' }):
  wpAny (model prog w) A (setAddHashed a (.int i tk) (hashInt i)) Q E s:=by
 obtain ⟨o,es,ep,t,ho,hex,hd,h1,h2,h3,h4,h5,h6,h7⟩:=hS
 have hlen:ns.length=es.size:=by
  obtain ⟨_,e⟩:=zaR.mp h2
  rw [e]; simp
 have hk:(intKind prog w).is i (.int i tk)=true:=intKind_is prog w i tk
 have hsc:(Value.int i tk).scannable=true:=rfl
 unfold setAddHashed setAddHashedIn
 refine wpAny_holding (wpAny_bind (wpAny_setState_of ho hd h5 ?_))
 dsimp only
 rw [byScan_of hsc h4 h1]
 simp only [↓reduceIte]
 unfold setAddByScan
 refine wpAny_bind (wpAny_bind (wpAny_rule (wpAny_bind (wpAny_setScan_of (knd:=intKind prog w) (k:=i) hk ho hd h5 h1 ?_))))
 cases hf:List.findIdx? (fun e=>(intKind prog w).is i e.2) es.toList with
 | some j=>
   dsimp only
   obtain ⟨hj,hpj,_⟩:=List.findIdx?_eq_some_iff_getElem.mp hf
   have hm:i∈ns:=(zim h2).mpr ⟨_,List.getElem_mem hj,hpj⟩
   refine wpAny_pure (wpAny_pure ?_)
   have q:=h s.heap ns false (Heap.SameBut.refl a s.heap) ⟨o,es,ep,t,ho,hex,hd,h1,h2,h3,h4,h5,h6,h7⟩ (fun k=>⟨.inl,fun z=>z.elim id fun e=>e ▸ hm⟩) (Nat.le_succ _)
   exact q
 | none=>
   dsimp only
   have hn:i∉ns:=fun hm=>by
    obtain ⟨e,he,q⟩:=(zim h2).mp hm
    have z:=List.findIdx?_eq_none_iff.mp hf e he
    rw [show (intKind prog w).is i e.2=true from q] at z
    cases z
   have gw:∀ (b:Bool) {s₁:Shared} {Q':Unit->Shared->Prop},Q' () s₁->wpAny (model prog w) A (match b with | true=>rule "set.scan.the-table-gave-way" | false=>pure ()) Q' E s₁:=
    fun b s₁ Q' hq=>by cases b <;> first | exact wpAny_pure hq | exact wpAny_rule hq
   have hp:=layNew_perm t es (hashInt i) (.int i tk)
   have hft:=layNew_fits t es (hashInt i) (.int i tk)
   obtain ⟨hr,hl⟩:=zjA (t:=t) (es:=es) (h:=hashInt i) (x:=.int i tk) h7
   generalize layNew t es (hashInt i) (.int i tk)=Z at hp hft hr hl ⊢
   obtain ⟨es1,t1,wd,gave⟩:=Z
   dsimp only at hp hft hr hl ⊢
   rw [Array.toList_push] at hp
   have e1:ElemsOf (intKind prog w) es1.toList:=(h1.push hk hsc).perm hp
   have i0:IntsAre ((es.toList ++ [(hashInt i,Value.int i tk)]).map (·.2)) (ns ++ [i]):=by
    obtain ⟨x1,x2⟩:=zaR.mp h2
    refine zaR.mpr ⟨fun v hv=>?_,by rw [x2]; simp [iv]⟩
    rw [List.map_append] at hv
    rcases List.mem_append.mp hv with z | z
    ·exact x1 v z
    ·simp at z; exact ⟨i,tk,z⟩
   obtain ⟨ns1,i1,p1⟩:=zeQ i0 (hp.map (·.2))
   have nd:ns1.Nodup:=p1.nodup_iff.mpr (by
    rw [List.nodup_append]
    exact ⟨h3,by simp,fun x hx y hy=>by simp at hy; rw [hy]; exact fun z=>hn (z ▸ hx)⟩)
   have hz:es1.size=es.size + 1:=by rw [<- Array.length_toList,hp.length_eq,List.length_append,Array.length_toList]; rfl
   have b1:es1.size < scanBound:=by omega
   have fin:∀ h' ns',Heap.SameBut a s.heap h'->ISet prog w h' a led ns'->ns'.Perm ns1->Q true { s with heap:=h' }:=fun h' ns' sb S p=>by
    refine h h' ns' true sb S (fun k=>?_) ?_
    ·rw [p.mem_iff,p1.mem_iff]; simp
    ·rw [p.length_eq,p1.length_eq]; simp
   refine wpAny_bind (gw _ ?_)
   split
   ·rw [hashByValue_scannable 8 hsc]
    refine wpAny_bind (wpAny_pure ?_)
    refine zgj (led:=led) ?_ ho hex hd e1 i1 nd b1 ?_ ?_ ?_ fun h' ns' sb S p=>?_
    ·intro b s₁ Q' hq; cases b <;> first | exact wpAny_pure hq | exact wpAny_rule hq
    ·split
     ·exact hft
     ·exact SetTable.fits_plain_off hft
    ·split <;> exact hl.trans h6
    ·split <;> exact hr
    ·dsimp only; exact wpAny_pure (fin h' ns' sb S p)
   ·refine wpAny_bind (wpAny_pure ?_)
    simp only [↓reduceIte]
    refine zgj (led:=led) ?_ ho hex hd e1 i1 nd b1 hft (hl.trans h6) hr fun h' ns' sb S p=>?_
    ·intro b s₁ Q' hq; cases b <;> first | exact wpAny_pure hq | exact wpAny_rule hq
    ·dsimp only; exact wpAny_pure (fin h' ns' sb S p)
end
end LS
namespace LS
open PySem PySem.Spec PyProof.Rows
section
variable {prog:Program} {w:World} {A:Around} {E:Value->Shared->Prop} {s:Shared}
noncomputable abbrev ledOf (w:World):Bool:= !w.params.followText "set-order"
noncomputable abbrev bareSet (w:World):Obj:={ cls:=.type "set",dict:=none,data:=.set #[] 0 (.fresh 0 0 (ledOf w)) }
theorem zkP {h:Heap} {a:Addr} (e:h.get? a=some (bareSet w)):ISet prog w h a (ledOf w) []:=
 ⟨_,#[],0,_,e,⟨rfl,rfl,rfl⟩,rfl,fun x hx=>by simp at hx,.nil,.nil,by decide,rfl,rfl,List.Pairwise.nil⟩
theorem zoG (a:Value) {Q₁:Value->Shared->Prop} (h:Q₁ (.ref s.heap.objs.size) { s with heap:=s.heap.push (bareSet w) }):
  codeAny (model prog w) A (.call (.builtin "set.__new__") ⟨[.type "set",a],[]⟩) (wants Q₁ E) s:=by
 refine codeAny_of_tree ?_
 show wpAny _ A.in1 (checkBuiltinCall "set.__new__" ⟨[.type "set",a],[]⟩ >>= fun _=>again (.builtin "set.__new__" ⟨[.type "set",a],[]⟩)) _ _ s
 refine wpAny_bind (wpAny_of_eq (PySem.F.newCall_set_1 a) (wpAny_pure ⟨plainId_quiet PySem.F.plain_set_new _,codeAny_builtin PySem.F.entry_set_new ?_⟩))
 rw [Around.under_plainId PySem.F.plain_set_new _]
 unfold Builtin.«set.__new__» Builtin.Frozenset.newClass
 have hsub:=sub_set_self
 obtain ⟨hp,g,d,tk,os⟩:=s
 dsimp only
 wp_walk
 refine wpAny_askSetting (wpAny_pure ?_)
 dsimp only
 simp only [newObj]
 exact wpAny_bind (wpAny_alloc (wpAny_pure (wpAny_pure h)))
end
section
variable {prog:Program} {w:World} {A:Around} {R:Result->Shared->Prop} {I:Addr} {fp wr:List Addr} {G:Array GenState->Array GenState->Prop} {n:Nat} {P:Nat->Value->Prop} {St:Nat->Shared->Prop} {led:Bool}
theorem zmQ (W:WalksS prog w A.in1 I fp wr G n P St) (S:Addr) (hSf:S∉fp) (val:Nat->Int) (hval:∀ i v,P i v->∃ t,v=.int (val i) t) (hb:n + 1 < scanBound):
  ∀ (k i:Nat) (s:Shared) (ns:List Int),n - i=k->i<=n->St i s->ISet prog w s.heap S led ns->ns.length<=i->(∀ x,x∈ns↔∃ j,j < i /\ val j=x)->
    (∀ s' ns',Moved (S :: wr) G s s'->ISet prog w s'.heap S led ns'->ns'.length<=n->(∀ x,x∈ns'↔∃ j,j < n /\ val j=x)->R (.ok (.ret .none)) s')->
    codeAny (model prog w) A (.builtin "set.update.loop" ⟨[.ref S,.ref I],[]⟩) R s:=by
 have hSw:S∉wr:=fun h=>hSf (W.sub _ h)
 have hsub:∀ b∈wr,b∈S :: wr:=fun b hb=>List.mem_cons_of_mem _ hb
 intro k
 induction k with
 | zero=>
   intro i s ns hk hi st hS hl hm hR
   have hin:i=n:=by omega
   subst hin
   refine codeAny_builtin PyProof.Rows.F.entry_set_update_loop ?_
   rw [Around.under_plainId PyProof.Rows.F.plain_set_update_loop _]
   show wpAny _ A.in1 (pyNext (.ref I) >>= _) _ _ s
   refine wpAny_bind (W.done s _ _ st fun s' mv=>?_)
   show wpAny _ A.in1 (ret Value.none) _ _ s'
   exact wpAny_pure (hR s' ns (mv.mono hsub) (hS.keeps fun o e=>mv.heap S o hSw e) hl hm)
 | succ k ih=>
   intro i s ns hk hi st hS hl hm hR
   have hlt:i < n:=by omega
   refine codeAny_builtin PyProof.Rows.F.entry_set_update_loop ?_
   rw [Around.under_plainId PyProof.Rows.F.plain_set_update_loop _]
   show wpAny _ A.in1 (pyNext (.ref I) >>= _) _ _ s
   refine wpAny_bind (W.item i s _ _ hlt st fun v s' hP st' mv=>?_)
   obtain ⟨t,rfl⟩:=hval i v hP
   have hS':ISet prog w s'.heap S led ns:=hS.keeps fun o e=>mv.heap S o hSw e
   show wpAny _ A.in1 (holding [Value.int (val i) t] (setAdd S (.int (val i) t)) >>= _) _ _ s'
   refine wpAny_bind (wpAny_holding ?_)
   unfold setAdd
   refine wpAny_holding (wpAny_bind ((intKind prog w).pyHash (k:=val i) (intKind_is _ _ _ _) ?_))
   refine zmH (s:={ s' with toks:=s'.toks + 1 }) hS' (by omega) fun h' ns' b sb S2 hm2 hl2=>?_
   refine wpAny_pure ⟨plainId_quiet PyProof.Rows.F.plain_set_update_loop _,ih (i + 1) _ ns' (by omega) hlt (W.frame _ s' _ _ st' (Nat.le_succ _) fun b hb o e=>?_) S2 (by omega) (fun x=>?_) fun s'' ns'' mv'' S3 l3 m3=>?_⟩
   ·rw [sb.2 b (fun z:b=S=>hSf (by rw [<- z]; exact hb))]; exact e
   ·rw [hm2,hm]
    constructor
    ·rintro (⟨j,hj,e⟩ | e)
     ·exact ⟨j,by omega,e⟩
     ·exact ⟨i,by omega,e.symm⟩
    ·rintro ⟨j,hj,e⟩
     by_cases hji:j=i
     ·subst hji; exact .inr e.symm
     ·exact .inl ⟨j,by omega,e⟩
   ·refine hR s'' ns'' (Moved.trans W.gtrans ((mv.mono hsub).then_heap (Nat.le_succ _) fun b o hb e=>?_) mv'') S3 l3 m3
    rw [sb.2 b (fun z:b=S=>hb (by rw [z]; exact List.mem_cons_self))]; exact e
end
section
variable {prog:Program} {w:World} {A:Around} {E:Value->Shared->Prop} {s:Shared}
structure RowSrc (prog:Program) (w:World) (h:Heap) (r:Addr) (items:Array Value) (T:String) (oI:Obj) (St:Addr->Nat->Heap->Prop):Prop where
 ty:∃ o,h.get? r=some o /\ o.cls=.type T
 sub1:isSubtype (.type T) (.type "set")=pure false
 sub2:isSubtype (.type T) (.type "frozenset")=pure false
 nd:(Value.type T == Value.type "dict")=false
 iter:∀ (A':Around) (s':Shared) (Q:Value->Shared->Prop) (E:Value->Shared->Prop),(∀ o,h.get? r=some o->s'.heap.get? r=some o)->Q (.ref s'.heap.objs.size) { s' with heap:=s'.heap.push oI }->wpAny (model prog w) A' (pyIter (.ref r)) Q E s'
 walk:∀ (A':Around) (I:Addr),A'.handled=none->r≠I->Walks prog w A' I [I,r] [I] items.size (fun i v=>items[i]?=some v) (St I)
 st:∀ h':Heap,(∀ o,h.get? r=some o->h'.get? r=some o)->St h'.objs.size 0 (h'.push oI)
theorem zm8 {h:Heap} {l:Addr} {items:Array Value} (hl:h.IsList l items):RowSrc prog w h l items "list" { cls:=.type "list_iterator",data:=.fields #[.ref l,.int 0 0] } (fun I i h=>h.IsListIter I l i /\ h.IsList l items) where
 ty:=let ⟨o,e,c,_⟩:=hl; ⟨o,e,c⟩
 sub1:=PySem.F.sub_list_set
 sub2:=PySem.F.sub_list_frozenset
 nd:=by decide
 iter:=fun A' s' Q E k q=>wpAny_pyIter_list (hl.at k) q
 walk:=fun A' I hh hne=>Walks.list hh I l hne items
 st:=fun h' k=>⟨⟨_,Heap.get?_push_size _ rfl,rfl,rfl⟩,(hl.at k).push _⟩
theorem zlX {h:Heap} {l:Addr} {items:Array Value} (hl:h.IsTuple l items):RowSrc prog w h l items "tuple" { cls:=.type "tuple_iterator",data:=.fields #[.ref l,.int 0 0] } (fun I i h=>h.IsTupleIter I l i /\ h.IsTuple l items) where
 ty:=let ⟨o,e,c,_⟩:=hl; ⟨o,e,c⟩
 sub1:=by rw [isSubtype_type]; kernel_rfl
 sub2:=by rw [isSubtype_type]; kernel_rfl
 nd:=by decide
 iter:=fun A' s' Q E k q=>wpAny_pyIter_tuple (hl.at k) q
 walk:=fun A' I hh hne=>Walks.tuple hh I l hne items
 st:=fun h' k=>⟨⟨_,Heap.get?_push_size _ rfl,rfl,rfl⟩,(hl.at k).push _⟩
set_option maxHeartbeats 3200000 in
theorem ziL {r:Addr} {items:Array Value} {ms:List Int} {T:String} {oI:Obj} {St:Addr->Nat->Heap->Prop} {Q:Value->Shared->Prop} (hh:A.handled=none) (src:RowSrc prog w s.heap r items T oI St) (hi:IntsAre items.toList ms) (hb:items.size + 1 < scanBound)
  (h:∀ (h':Heap) (tk:Nat) (ns:List Int),ISet prog w h' s.heap.objs.size (ledOf w) ns->(∀ x,x∈ns↔x∈ms)->ns.length<=ms.length->(∀ b o,s.heap.get? b=some o->h'.get? b=some o)->Q (.ref s.heap.objs.size) { s with heap:=h',toks:=tk }):
  wpAny (model prog w) A (call (.type "set") [.ref r]) Q E s:=by
 obtain ⟨c,tl,hmro⟩:=PySem.F.called_set.mro
 have hmade:=PySem.F.called_set.made
 have hsub:=PySem.F.called_set.sub
 refine wpAny_call (codeAny_of_tree ?_)
 show wpAny _ _ (callAny (.type "set") _) _ _ _
 refine wpAny_pure ⟨Code.quiet_builtin _ (by decide +kernel),codeAny_builtin PySem.F.entry_type_call ?_⟩
 rw [Around.under_plain (weight_type_call_type "set" [.ref r] []) rfl]
 have h1:=PySem.F.called_set.notType
 have h2:=PySem.F.called_set.canCreate
 have hct:=PySem.F.typeCall_set_1 (.ref r)
 repeat (any_goals (first | assumption | wp_step))
 refine codeAny_mono (zoG (.ref r) (E:=E) (Q₁:=fun obj s₁=>obj=.ref s.heap.objs.size /\ s₁={ s with heap:=s.heap.push (bareSet w) }) ⟨rfl,rfl⟩) fun q s₁ hq=>?_
 cases q with
 | error e=>exact hq
 | ok fl=>
   cases fl with
   | ret obj=>
     obtain ⟨rfl,rfl⟩:=hq
     have hS:(s.heap.push (bareSet w)).get? s.heap.objs.size=some (bareSet w):=Heap.get?_push_size _ rfl
     have hT:Shared.TypeIs { s with heap:=s.heap.push (bareSet w) } (.ref s.heap.objs.size) "set":=⟨_,hS,rfl⟩
     have hli:=PySem.F.called_set.init.lookup
     have hbi:=PySem.F.called_set.init.bind (.ref s.heap.objs.size)
     repeat (any_goals (first | assumption | wp_step))
     refine codeAny_mono (codeAny_call_builtin (R:=wants (fun v s₂=>v=.none /\ ∃ h' tk ns,s₂={ s with heap:=h',toks:=tk } /\ ISet prog w h' s.heap.objs.size (ledOf w) ns /\ (∀ x,x∈ns↔x∈ms) /\ ns.length<=ms.length /\ ∀ b o,s.heap.get? b=some o->h'.get? b=some o) E)
      PySem.F.called_set.init.plain PySem.F.entry_set_init (check_set_init_1 hT ?_)) fun r₂ s₂ hr₂=>?_
     ·obtain ⟨orow,horow,hcl⟩:=src.ty
      obtain ⟨ocls,odict,odata,oslots⟩:=orow
      simp only at hcl
      subst hcl
      have hol':(s.heap.push (bareSet w)).get? r=some { cls:=.type T,dict:=odict,data:=odata,slots:=oslots }:=Heap.get?_push_of_some _ horow
      have hs1:=src.sub1
      have hs2:=src.sub2
      have hne:=src.nd
      unfold Builtin.«set.__init__» noKeywords Builtin.Frozenset.updateFrom
      generalize hPI:pyIter=PI
      wp_walk
      subst hPI
      refine src.iter _ _ _ _ (fun o e=>Heap.get?_push_of_some _ e) ?_
      refine wpAny_bind (wpAny_runValue ?_)
      have hrS:r < s.heap.objs.size:=Heap.lt_size horow
      have hh3:A.in1.in1.in1.handled=none:=by simp [hh]
      have hz:(s.heap.push (bareSet w)).objs.size=s.heap.objs.size + 1:=Heap.size_push _ _
      have hneI:r≠(s.heap.push (bareSet w)).objs.size:=by rw [hz]; exact Nat.ne_of_lt (Nat.lt_succ_of_lt hrS)
      have hSf:s.heap.objs.size∉[(s.heap.push (bareSet w)).objs.size,r]:=by
       rw [hz]; simp only [List.mem_cons,List.not_mem_nil,or_false,not_or]
       exact ⟨Nat.ne_of_lt (Nat.lt_succ_self _),Nat.ne_of_gt hrS⟩
      have hval:∀ (i:Nat) (v:Value),items[i]?=some v->∃ t,v=.int ((fun i=>ms.getD i 0) i) t:=fun i v hv=>IntsAre.int_at hi i v (by rw [Array.getElem?_toList]; exact hv)
      have hlen:ms.length=items.size:=by have:=(zaR.mp hi).2; rw [this]; simp
      refine zmQ ((src.walk _ _ hh3 hneI).toS) s.heap.objs.size hSf (fun i=>ms.getD i 0) hval hb (items.size - 0) 0 _ [] (by omega) (Nat.zero_le _) (src.st _ fun o e=>Heap.get?_push_of_some _ e) (zkP (Heap.get?_push_of_some _ hS)) (Nat.le_refl _) (fun x=>by simp) ?_
      intro s' ns' mv S' l' m'
      obtain ⟨h',g',d',tk',os'⟩:=s'
      have eg:g'=s.gens:=mv.gens
      have ed:d'=s.drawn:=mv.drawn
      have eo:os'=s.os:=mv.os
      subst eg ed eo
      show wpAny _ _ _ _ _ _
      refine wpAny_pure ?_
      show wpAny _ _ (ret Value.none) _ _ _
      refine wpAny_pure ⟨rfl,h',tk',ns',rfl,S',fun x=>?_,by omega,fun b o e=>?_⟩
      ·rw [m',<- hlen]
       constructor
       ·rintro ⟨j,hj,e⟩
        rw [List.getD_eq_getElem?_getD,List.getElem?_eq_getElem hj] at e
        rw [<- e]; exact List.getElem_mem hj
       ·intro hx
        obtain ⟨j,hj,e⟩:=List.getElem_of_mem hx
        exact ⟨j,hj,by rw [List.getD_eq_getElem?_getD,List.getElem?_eq_getElem hj]; exact e⟩
      ·have hb0:=Heap.lt_size e
       refine mv.heap b o ?_ (Heap.get?_push_of_some _ (Heap.get?_push_of_some _ e))
       rw [hz]
       simp only [List.mem_cons,List.not_mem_nil,or_false,not_or]
       exact ⟨Nat.ne_of_lt hb0,Nat.ne_of_lt (Nat.lt_succ_of_lt hb0)⟩
     ·cases r₂ with
      | error e=>exact hr₂
      | ok fl₂=>
        cases fl₂ with
        | ret v=>
          obtain ⟨rfl,h',tk,ns,rfl,S',m',l',k'⟩:=hr₂
          repeat (any_goals (first | assumption | wp_step))
          exact h _ _ ns S' m' l' k'
        | _=>exact hr₂.elim
   | _=>exact hq.elim
end
end LS
namespace LS
open PySem PyProof.Rows
set_option maxRecDepth 100000
theorem z0:Slot "set_iterator" "__next__" "set_iterator.__next__":=
 .of (owner:="set_iterator") (n:="__next__") (by rw [typeLookup_type,builtinLookup_eq_fast]; kernel_rfl) (by decide +kernel) (by decide +kernel) (by decide +kernel) (by first | exact .inl (by decide +kernel) | exact .inr (by decide +kernel)) (by rw [isSubtype_type]; kernel_rfl)
theorem zdZ:Slot "set_iterator" "__iter__" "set_iterator.__iter__":=
 .of (owner:="set_iterator") (n:="__iter__") (by rw [typeLookup_type,builtinLookup_eq_fast]; kernel_rfl) (by decide +kernel) (by decide +kernel) (by decide +kernel) (by first | exact .inl (by decide +kernel) | exact .inr (by decide +kernel)) (by rw [isSubtype_type]; kernel_rfl)
theorem zbD:entryFor table "set_iterator.__next__"=some Builtin.«set_iterator.__next__»:=entryFor_of_tree (by kernel_rfl)
theorem zfL:entryFor table "set_iterator.__iter__"=some Builtin.«dict_keyiterator.__iter__»:=
 entryFor_alias (id':="dict_keyiterator.__iter__") (by kernel_rfl) (by first | rfl | decide +kernel | (unfold String.splitOn; simp +decide [String.splitOnAux])) (by decide +kernel) (by kernel_rfl)
theorem ze4:entryFor table "set.__iter__"=some Builtin.«frozenset.__iter__»:=
 entryFor_alias (id':="frozenset.__iter__") (by kernel_rfl) (by first | rfl | decide +kernel | (unfold String.splitOn; simp +decide [String.splitOnAux])) (by decide +kernel) (by kernel_rfl)
theorem ziC:Manifest.owners.lookup (String.ofList ['r','o','t','a','r','e','t','i','_','t','e','s'].reverse)=some Manifest.sig_set_iterator:=by kernel_rfl
theorem zb9 (a:Value):argsOk "set_iterator.__next__" ⟨[a],[]⟩:=by
 unfold argsOk; rw [signature?_of (id:="set_iterator.__next__") (n:=['_','_','t','x','e','n','_','_']) (o:=['r','o','t','a','r','e','t','i','_','t','e','s']) (by kernel_rfl) ziC]; kernel_rfl
theorem zgZ (a:Value):argsOk "set_iterator.__iter__" ⟨[a],[]⟩:=by
 unfold argsOk; rw [signature?_of (id:="set_iterator.__iter__") (n:=['_','_','r','e','t','i','_','_']) (o:=['r','o','t','a','r','e','t','i','_','t','e','s']) (by kernel_rfl) ziC]; kernel_rfl
noncomputable def IsSI (h:Heap) (it a:Addr) (first:Value) (i n ep:Nat):Prop:=∃ o,h.get? it=some o /\ o.cls=.type "set_iterator" /\ o.data=.fields #[first,.int i 0,.ref a,.int n 0,.int ep 0]
section
variable {prog:Program} {w:World} {A:Around} {E:Value->Shared->Prop} {s:Shared} {it a:Addr} {first:Value} {i n ep:Nat}
theorem IsSI.at {h h':Heap} (x:IsSI h it a first i n ep) (k:∀ o,h.get? it=some o->h'.get? it=some o):IsSI h' it a first i n ep:=let ⟨o,e,r⟩:=x; ⟨o,k o e,r⟩
theorem IsSI.typeIs (x:IsSI s.heap it a first i n ep):s.TypeIs (.ref it) "set_iterator":=let ⟨o,e,c,_⟩:=x; ⟨o,e,c⟩
noncomputable def SetAt (h:Heap) (a:Addr) (es:Array (Int×Value)) (ep:Nat) (t:SetTable):Prop:=∃ o,h.get? a=some o /\ o.ExactSet /\ o.data=.set es ep t
theorem SetAt.at {h h':Heap} {es:Array (Int×Value)} {t:SetTable} (x:SetAt h a es ep t) (k:∀ o,h.get? a=some o->h'.get? a=some o):SetAt h' a es ep t:=let ⟨o,e,r⟩:=x; ⟨o,k o e,r⟩
theorem zhD (hit:IsSI s.heap it a first i n ep) {Q:Value->Shared->Prop} (h:Q (.ref it) s):wpAny (model prog w) A (pyIter (.ref it)) Q E s:=by
 refine wpAny_pyIter_slot hit.typeIs zdZ (wpAny_call_entry zdZ hit.typeIs zfL ?_ (zgZ _))
 show wpAny _ _ (ret (.ref it)) _ _ s
 exact wpAny_pure ⟨_,rfl,"set_iterator",_,hit.typeIs,z0.lookup,h⟩
variable {es:Array (Int×Value)} {t:SetTable} {slot:Nat}
theorem zke {x:Value} {next:Nat} {Q:Option Value->Shared->Prop} (hit:IsSI s.heap it a (.int slot 0) i n ep) (hS:SetAt s.heap a es ep t) (hf:t.fits es.size=true) (hn:es.size=n)
  (hx:∀ (A':Around) (Q':Option (Value×Nat)->Shared->Prop) (E':Value->Shared->Prop),Q' (some (x,next)) s->wpAny (model prog w) A' (setNext a slot i ep) Q' E' s)
  (hQ:∀ h',IsSI h' it a (.int next 0) (i + 1) n ep->Heap.SameBut it s.heap h'->Q (some x) { s with heap:=h' }):wpAny (model prog w) A (pyNext (.ref it)) Q E s:=by
 obtain ⟨o,ho,hc,hd⟩:=id hit
 obtain ⟨os,hos,hex,hds⟩:=id hS
 unfold pyNext
 refine wpAny_bind (wpAny_attempt (wpAny_callSpecial?_slot (name:=Str.ofString "__next__") hit.typeIs z0 (wpAny_call_entry z0 hit.typeIs zbD ?_ (zb9 _))))
 unfold Builtin.«set_iterator.__next__»
 refine wpAny_bind (wpAny_pure ?_)
 dsimp only
 refine wpAny_bind (wpAny_fieldsOf ho hd ?_)
 dsimp only
 refine wpAny_bind (wpAny_setEntries_of hos hds hf ?_)
 rw [if_neg (by rw [hn]; simp)]
 refine wpAny_bind ?_
 simp only [Int.toNat_natCast]
 refine hx _ _ _ ?_
 dsimp only
 refine wpAny_bind (wpAny_setField ho hd (by simp) ?_)
 have e1:=Heap.get?_update_self (Obj.mapFields (·.setIfInBounds 0 (rawInt next))) ho (Obj.isFreed_of_fields (Obj.data_mapFields hd _))
 have d1:=Obj.data_mapFields hd (·.setIfInBounds 0 (rawInt next))
 refine wpAny_bind (wpAny_setField e1 d1 (by simp) ?_)
 refine wpAny_pure ⟨x,rfl,wpAny_pure (hQ _ ?_ ((Heap.SameBut.update ..).trans (Heap.SameBut.update ..)))⟩
 refine ⟨_,Heap.get?_update_self _ e1 (Obj.isFreed_of_fields (Obj.data_mapFields d1 _)),?_,?_⟩
 ·rw [Obj.cls_mapFields,Obj.cls_mapFields]; exact hc
 ·rw [Obj.data_mapFields d1]; simp [rawInt]
theorem znJ {Q:Option Value->Shared->Prop} (hh:A.handled=none) (hit:IsSI s.heap it a (.int slot 0) i n ep) (hS:SetAt s.heap a es ep t) (hf:t.fits es.size=true) (hn:es.size=n)
  (hx:∀ (A':Around) (Q':Option (Value×Nat)->Shared->Prop) (E':Value->Shared->Prop),Q' none s->wpAny (model prog w) A' (setNext a slot i ep) Q' E' s)
  (hQ:∀ h',Heap.ExtBut it s.heap h'->Q none { s with heap:=h' }):wpAny (model prog w) A (pyNext (.ref it)) Q E s:=by
 obtain ⟨o,ho,hc,hd⟩:=id hit
 obtain ⟨os,hos,hex,hds⟩:=id hS
 unfold pyNext
 refine wpAny_bind (wpAny_attempt (wpAny_callSpecial?_slot (name:=Str.ofString "__next__") hit.typeIs z0 (wpAny_call_entry z0 hit.typeIs zbD ?_ (zb9 _))))
 unfold Builtin.«set_iterator.__next__»
 refine wpAny_bind (wpAny_pure ?_)
 dsimp only
 refine wpAny_bind (wpAny_fieldsOf ho hd ?_)
 dsimp only
 refine wpAny_bind (wpAny_setEntries_of hos hds hf ?_)
 rw [if_neg (by rw [hn]; simp)]
 refine wpAny_bind ?_
 simp only [Int.toNat_natCast]
 refine hx _ _ _ ?_
 dsimp only
 refine wpAny_bind (wpAny_setField ho hd (by simp) ?_)
 refine wpAny_bind ?_
 simp only [newExc,newTuple]
 refine wpAny_bind (wpAny_newObj_type ?_ (by size_fits))
 refine wpAny_bind (m:=firstArgMember _ _) (wpAny_of_eq (a:=Value.none) (by first | rfl | (simp only [firstArgMember]; rfl)) ?_)
 refine wpAny_newObj_type ?_ (by size_fits)
 simp only [raiseNew]
 refine wpAny_bind (wpAny_handled ?_)
 first | rw [show A.in1.handled=none from hh] | rw [hh]
 refine wpAny_bind (wpAny_pure (wpAny_throw ?_))
 refine wpAny_bind (wpAny_isInstance (T:="StopIteration") (b:=true) ⟨_,Heap.get?_push_size _ rfl,rfl⟩ isSubtype_stop ?_)
 exact wpAny_pure (hQ _ (((Heap.SameBut.update ..).extBut.push _).push _))
theorem zmN {x:Value} {pl:Nat} {tp:Addr} {ps:Array Value} {hsh:Int} {Q:Option Value->Shared->Prop} (hit:IsSI s.heap it a (.ref tp) i n ep) (ht:s.heap.IsTuple tp ps) (hS:SetAt s.heap a es ep t) (hf:t.fits es.size=true) (hn:es.size=n)
  (hp:ps[i]?=some (.int pl 0)) (hx:es[pl]?=some (hsh,x))
  (hQ:∀ h',IsSI h' it a (.ref tp) (i + 1) n ep->Heap.SameBut it s.heap h'->Q (some x) { s with heap:=h' }):wpAny (model prog w) A (pyNext (.ref it)) Q E s:=by
 obtain ⟨o,ho,hc,hd⟩:=id hit
 obtain ⟨os,hos,hex,hds⟩:=id hS
 obtain ⟨ot,hot,_,nt,hdt⟩:=ht
 unfold pyNext
 refine wpAny_bind (wpAny_attempt (wpAny_callSpecial?_slot (name:=Str.ofString "__next__") hit.typeIs z0 (wpAny_call_entry z0 hit.typeIs zbD ?_ (zb9 _))))
 unfold Builtin.«set_iterator.__next__»
 refine wpAny_bind (wpAny_pure ?_)
 dsimp only
 refine wpAny_bind (wpAny_fieldsOf ho hd ?_)
 dsimp only
 refine wpAny_bind (wpAny_setEntries_of hos hds hf ?_)
 rw [if_neg (by rw [hn]; simp)]
 refine wpAny_bind (wpAny_seqItems hot hdt ?_)
 dsimp only
 simp only [Int.toNat_natCast,hp]
 refine wpAny_bind ?_
 unfold setNextDrawn
 refine wpAny_bind (wpAny_setState_of hos hds hf ?_)
 dsimp only
 rw [if_neg (by simp)]
 simp only [hx]
 refine wpAny_pure ?_
 refine wpAny_bind (wpAny_setField ho hd (by simp) ?_)
 refine wpAny_pure ⟨x,rfl,wpAny_pure (hQ _ ?_ (Heap.SameBut.update ..))⟩
 refine ⟨_,Heap.get?_update_self _ ho (Obj.isFreed_of_fields (Obj.data_mapFields hd _)),?_,?_⟩
 ·rw [Obj.cls_mapFields]; exact hc
 ·rw [Obj.data_mapFields hd]; simp [rawInt]
theorem zoU {tp:Addr} {ps:Array Value} {Q:Option Value->Shared->Prop} (hh:A.handled=none) (hit:IsSI s.heap it a (.ref tp) i n ep) (ht:s.heap.IsTuple tp ps) (hS:SetAt s.heap a es ep t) (hf:t.fits es.size=true) (hn:es.size=n)
  (hp:ps[i]?=none) (hQ:∀ h',Heap.ExtBut it s.heap h'->Q none { s with heap:=h' }):wpAny (model prog w) A (pyNext (.ref it)) Q E s:=by
 obtain ⟨o,ho,hc,hd⟩:=id hit
 obtain ⟨os,hos,hex,hds⟩:=id hS
 obtain ⟨ot,hot,_,nt,hdt⟩:=ht
 unfold pyNext
 refine wpAny_bind (wpAny_attempt (wpAny_callSpecial?_slot (name:=Str.ofString "__next__") hit.typeIs z0 (wpAny_call_entry z0 hit.typeIs zbD ?_ (zb9 _))))
 unfold Builtin.«set_iterator.__next__»
 refine wpAny_bind (wpAny_pure ?_)
 dsimp only
 refine wpAny_bind (wpAny_fieldsOf ho hd ?_)
 dsimp only
 refine wpAny_bind (wpAny_setEntries_of hos hds hf ?_)
 rw [if_neg (by rw [hn]; simp)]
 refine wpAny_bind (wpAny_seqItems hot hdt ?_)
 dsimp only
 simp only [Int.toNat_natCast,hp]
 refine wpAny_bind (wpAny_setField ho hd (by simp) ?_)
 have e1:=Heap.get?_update_self (Obj.mapFields (·.setIfInBounds 0 (rawInt 0))) ho (Obj.isFreed_of_fields (Obj.data_mapFields hd _))
 have d1:=Obj.data_mapFields hd (·.setIfInBounds 0 (rawInt 0))
 refine wpAny_bind (wpAny_setField e1 d1 (by simp) ?_)
 refine wpAny_bind ?_
 simp only [newExc,newTuple]
 refine wpAny_bind (wpAny_newObj_type ?_ (by size_fits))
 refine wpAny_bind (m:=firstArgMember _ _) (wpAny_of_eq (a:=Value.none) (by first | rfl | (simp only [firstArgMember]; rfl)) ?_)
 refine wpAny_newObj_type ?_ (by size_fits)
 simp only [raiseNew]
 refine wpAny_bind (wpAny_handled ?_)
 first | rw [show A.in1.handled=none from hh] | rw [hh]
 refine wpAny_bind (wpAny_pure (wpAny_throw ?_))
 refine wpAny_bind (wpAny_isInstance (T:="StopIteration") (b:=true) ⟨_,Heap.get?_push_size _ rfl,rfl⟩ isSubtype_stop ?_)
 exact wpAny_pure (hQ _ ((((Heap.SameBut.update ..).trans (Heap.SameBut.update ..)).extBut.push _).push _))
theorem zft (hS:SetAt s.heap a es ep t) (hf:t.fits es.size=true) (hw:w.params.followText "set-order"=false) (hl:t.led=true) (hp:(!t.plain && decide (es.size > 1))=false) {Q:Option (Value×Nat)->Shared->Prop}
  (h:Q (match es[SetTable.below t.place slot]?,t.place[SetTable.below t.place slot]? with | some (_,x),some j=>some (x,j + 1) | _,_=>none) s):wpAny (model prog w) A (setNext a slot i ep) Q E s:=by
 obtain ⟨o,ho,_,hd⟩:=hS
 unfold setNext
 refine wpAny_bind (wpAny_setState_of ho hd hf ?_)
 dsimp only
 refine wpAny_bind ?_
 unfold setsByText
 refine wpAny_bind (wpAny_askSetting (wpAny_pure ?_))
 show wpAny _ _ (if w.params.followText "set-order"=true then _ else _) _ _ _
 rw [hw,if_neg Bool.false_ne_true]
 show wpAny _ _ (if (!t.plain && decide (es.size > 1))=true then _ else _) _ _ _
 rw [hp,if_neg Bool.false_ne_true]
 refine wpAny_bind ?_
 show wpAny _ _ (if (!t.led && !es.isEmpty)=true then _ else _) _ _ _
 rw [hl,if_neg (by simp)]
 exact wpAny_pure (wpAny_pure h)
theorem zgL (hS:SetAt s.heap a es ep t) (hf:t.fits es.size=true) (hw:w.params.followText "set-order"=true) {Q:Option (Value×Nat)->Shared->Prop}
  (h:Q (((pickOrder (w.params.setOrder a ep) es)[i]?).map fun e=>(e.2,slot)) s):wpAny (model prog w) A (setNext a slot i ep) Q E s:=by
 obtain ⟨o,ho,_,hd⟩:=hS
 unfold setNext
 refine wpAny_bind (wpAny_setState_of ho hd hf ?_)
 dsimp only
 refine wpAny_bind ?_
 unfold setsByText
 refine wpAny_bind (wpAny_askSetting (wpAny_pure ?_))
 show wpAny _ _ (if w.params.followText "set-order"=true then _ else _) _ _ _
 rw [hw,if_pos rfl]
 rw [if_neg (by simp)]
 refine wpAny_bind ?_
 unfold setWalk
 refine wpAny_bind (wpAny_setState_of ho hd hf ?_)
 dsimp only
 refine wpAny_bind ?_
 unfold setsByText
 refine wpAny_bind (wpAny_askSetting (wpAny_pure ?_))
 show wpAny _ _ (if w.params.followText "set-order"=true then _ else _) _ _ _
 rw [hw,if_pos rfl]
 exact wpAny_bind (wpAny_askSetting (wpAny_pure (wpAny_pure h)))
end
end LS
namespace LS
open PySem PySem.Spec PyProof.Rows
theorem zdJ {α:Type}:∀ {l:List α} {i:Nat} (h:i < l.length),(l[i] :: l.eraseIdx i).Perm l
 | x :: l,0,_=>by simp
 | x :: l,i + 1,h=>by
   have h':i < l.length:=by simpa using h
   have:=zdJ h'
   simp only [List.getElem_cons_succ,List.eraseIdx_cons_succ]
   exact (List.Perm.swap _ _ _).trans (List.Perm.cons _ this)
theorem zkG {α:Type} (next:Nat->Nat):∀ (fuel k:Nat) (left:List α) (out:Array α),left.length=fuel->(pickOrder.go next fuel k left out).toList.Perm (out.toList ++ left)
 | 0,k,left,out,h=>by
   have:left=[]:=List.length_eq_zero_iff.mp h
   subst this
   rw [pickOrder.go,List.append_nil]
 | fuel + 1,k,left,out,h=>by
   rw [pickOrder.go]
   have hl:next k % left.length < left.length:=Nat.mod_lt _ (by omega)
   rw [List.getElem?_eq_getElem hl]
   dsimp only
   refine (zkG next fuel (k + 1) _ _ (by rw [List.length_eraseIdx_of_lt hl]; omega)).trans ?_
   rw [Array.toList_push,List.append_assoc]
   exact List.Perm.append_left _ (zdJ hl)
theorem zma {α:Type} (next:Nat->Nat) (xs:Array α):(pickOrder next xs).toList.Perm xs.toList:=by
 have:=zkG next xs.size 0 xs.toList #[] (by simp)
 simpa [pickOrder] using this
section
variable {prog:Program} {w:World} {A:Around} {E:Value->Shared->Prop} {s:Shared} {it a:Addr} {first:Value} {i n ep:Nat} {es:Array (Int×Value)} {t:SetTable}
theorem ziZ {M:Model} {src:Source} {Q:Nat->Shared->Prop} (hn:n≠0) (h:∀ i d',i < n->Q i { s with drawn:=d' }):wpAny M A (choose src n) Q E s:=
 fun _ _ _=>⟨hn,h _ _ (Nat.mod_lt _ (Nat.pos_of_ne_zero hn))⟩
theorem zfa {α:Type} {M:Model}:∀ (n:Nat) (xs:List α) (s:Shared) (Q:List α->Shared->Prop),xs.length=n->(∀ ys d',ys.Perm xs->Q ys { s with drawn:=d' })->wpAny M A (drawOrder n xs) Q E s
 | 0,xs,s,Q,hl,h=>by
   have e:xs=[]:=List.length_eq_zero_iff.mp hl
   subst e
   rw [drawOrder]
   exact wpAny_pure (h [] s.drawn (.refl _))
 | n + 1,[],s,Q,hl,h=>by cases hl
 | n + 1,x :: xs,s,Q,hl,h=>by
   rw [drawOrder]
   rotate_left
   ·intro z; cases z
   refine wpAny_bind (ziZ (by simp) fun i d' hi=>?_)
   rw [List.getElem?_eq_getElem hi]
   dsimp only
   refine wpAny_bind (zfa n _ _ _ (by rw [List.length_eraseIdx_of_lt hi]; simp at hl ⊢; omega) fun ys d2 hp=>wpAny_pure ?_)
   refine h _ d2 ?_
   exact (List.Perm.cons _ hp).trans (zdJ hi)
theorem zk6 {I:Addr} (hf:t.fits es.size=true) (hw:w.params.followText "set-order"=true) (hne:a≠I) (hh:A.handled=none):
  Walks prog w A I [I,a] [I] (pickOrder (w.params.setOrder a ep) es).size (fun i v=>((pickOrder (w.params.setOrder a ep) es).toList.map (·.2))[i]?=some v) (fun i h=>IsSI h I a (.int (0:Nat) 0) i es.size ep /\ SetAt h a es ep t) where
 sub:=fun b hb=>by simp at hb; simp [hb]
 frame:=fun _ _ _ st hk=>⟨st.1.at fun o e=>hk I (by simp) o e,st.2.at fun o e=>hk a (by simp) o e⟩
 item:=fun i s Q E hi st hQ=>by
  refine zke (x:=((pickOrder (w.params.setOrder a ep) es)[i]).2) (next:=0) st.1 st.2 hf rfl (fun A' Q' E' q=>zgL st.2 hf hw (by rw [Array.getElem?_eq_getElem hi]; exact q)) fun h' hit' hs'=>?_
  exact hQ _ h' s.toks (by simp [hi]) ⟨hit',st.2.at fun o e=>hs'.extBut a o hne e⟩ fun b o hb e=>hs'.extBut b o (fun h=>hb (by simp [h])) e
 done:=fun s Q E st hQ=>znJ hh st.1 st.2 hf rfl (fun A' Q' E' q=>zgL st.2 hf hw (by rw [Array.getElem?_eq_none (by simp)]; exact q)) fun h' he'=>hQ h' s.toks fun b o hb e=>he' b o (fun h=>hb (by simp [h])) e
 self:=fun _ _ _ _ st hQ=>zhD st.1 hQ
theorem zjj {I:Addr} (hf:t.fits es.size=true) (hw:w.params.followText "set-order"=false) (hl:t.led=true) (hp:(!t.plain && decide (es.size > 1))=false) (hr:Ris t.place.toList) (hne:a≠I) (hh:A.handled=none):
  Walks prog w A I [I,a] [I] es.size (fun i v=>(es.toList.map (·.2))[i]?=some v)
   (fun i h=>∃ slot:Nat,IsSI h I a (.int slot 0) i es.size ep /\ SetAt h a es ep t /\ (∀ k,k < i->t.place.getD k 0 < slot) /\ ∀ k,i<=k->k < t.place.size->slot<=t.place.getD k 0) where
 sub:=fun b hb=>by simp at hb; simp [hb]
 frame:=fun _ _ _ ⟨slot,st1,st2,st3⟩ hk=>⟨slot,st1.at fun o e=>hk I (by simp) o e,st2.at fun o e=>hk a (by simp) o e,st3⟩
 item:=fun i s Q E hi ⟨slot,st1,st2,st3,st4⟩ hQ=>by
  have hz:t.place.size=es.size:=by simp only [SetTable.fits,Bool.and_eq_true,beq_iff_eq] at hf; exact hf.1
  have hb:SetTable.below t.place slot=i:=zfO hr (by omega) st3 st4
  have hpl:t.place[i]?=some (t.place.getD i 0):=by rw [Array.getElem?_eq_getElem (by omega)]; simp [Array.getD,hz,hi]
  refine zke (x:=es[i].2) (next:=t.place.getD i 0 + 1) st1 st2 hf rfl (fun A' Q' E' q=>zft st2 hf hw hl hp (by rw [hb,Array.getElem?_eq_getElem hi,hpl]; exact q)) fun h' hit' hs'=>?_
  refine hQ _ h' s.toks (by simp [hi]) ⟨_,hit',st2.at fun o e=>hs'.extBut a o hne e,fun k hk=>?_,fun k h1 h2=>?_⟩ fun b o hb e=>hs'.extBut b o (fun h=>hb (by simp [h])) e
  ·by_cases hki:k=i
   ·rw [hki]; omega
   ·have:=zdO hr (show k < i by omega) (by omega) 0 0
    omega
  ·have:=zdO hr (show i < k by omega) h2 0 0
   omega
 done:=fun s Q E ⟨slot,st1,st2,st3,st4⟩ hQ=>by
  have hz:t.place.size=es.size:=by simp only [SetTable.fits,Bool.and_eq_true,beq_iff_eq] at hf; exact hf.1
  have hb:SetTable.below t.place slot=es.size:=zfO hr (by omega) st3 st4
  exact znJ hh st1 st2 hf rfl (fun A' Q' E' q=>zft st2 hf hw hl hp (by rw [hb,Array.getElem?_eq_none (Nat.le_refl _)]; exact q)) fun h' he'=>hQ h' s.toks fun b o hb e=>he' b o (fun h=>hb (by simp [h])) e
 self:=fun _ _ _ _ ⟨slot,st1,_⟩ hQ=>zhD st1 hQ
theorem zjf {I tp:Addr} {ys:List Nat} (hf:t.fits es.size=true) (hy:ys.Perm (List.range es.size)) (hne:a≠I) (hnt:tp≠I) (hh:A.handled=none):
  Walks prog w A I [I,a,tp] [I] es.size (fun i v=>(ys.map fun p=>(es.getD p (0,Value.none)).2)[i]?=some v) (fun i h=>IsSI h I a (.ref tp) i es.size ep /\ h.IsTuple tp (ys.map fun p:Nat=>rawInt p).toArray /\ SetAt h a es ep t) where
 sub:=fun b hb=>by simp at hb; simp [hb]
 frame:=fun _ _ _ st hk=>⟨st.1.at fun o e=>hk I (by simp) o e,st.2.1.at fun o e=>hk tp (by simp) o e,st.2.2.at fun o e=>hk a (by simp) o e⟩
 item:=fun i s Q E hi st hQ=>by
  have hyl:ys.length=es.size:=by rw [hy.length_eq]; simp
  have hp:ys[i] < es.size:=List.mem_range.mp (hy.mem_iff.mp (List.getElem_mem (by omega)))
  refine zmN (x:=es[ys[i]].2) (pl:=ys[i]) (hsh:=es[ys[i]].1) st.1 st.2.1 st.2.2 hf rfl (by simp [hyl,hi,rawInt]) (by rw [Array.getElem?_eq_getElem hp]) fun h' hit' hs'=>?_
  refine hQ _ h' s.toks ?_ ⟨hit',st.2.1.at fun o e=>hs'.extBut tp o hnt e,st.2.2.at fun o e=>hs'.extBut a o hne e⟩ fun b o hb e=>hs'.extBut b o (fun h=>hb (by simp [h])) e
  rw [List.getElem?_map,List.getElem?_eq_getElem (by omega)]
  simp [Array.getD,hp]
 done:=fun s Q E st hQ=>by
  have hyl:ys.length=es.size:=by rw [hy.length_eq]; simp
  exact zoU hh st.1 st.2.1 st.2.2 hf rfl (by simp [hyl]) fun h' he'=>hQ h' s.toks fun b o hb e=>he' b o (fun h=>hb (by simp [h])) e
 self:=fun _ _ _ _ st hQ=>zhD st.1 hQ
theorem zmx {Q:Value->Shared->Prop} (hS:SetAt s.heap a es ep t) (hf:t.fits es.size=true) (hr:Ris t.place.toList) (hl:t.led=ledOf w) (hz:es.size<=sizeLine)
  (h:∀ (I:Addr) (fp:List Addr) (ord:List Value) (St:Nat->Heap->Prop) (h1:Heap) (d1:Drawn),ord.Perm (es.toList.map (·.2))->(∀ A':Around,A'.handled=none->Walks prog w A' I fp [I] ord.length (fun i v=>ord[i]?=some v) St)->St 0 h1->
   (∀ b o,s.heap.get? b=some o->h1.get? b=some o)->s.heap.objs.size<=I->(∀ b∈fp,b=a \/ s.heap.objs.size<=b)->Q (.ref I) { s with heap:=h1,drawn:=d1 }):wpAny (model prog w) A (pyIter (.ref a)) Q E s:=by
 obtain ⟨o,ho,hex,hd⟩:=id hS
 have hT:s.TypeIs (.ref a) "set":=⟨o,ho,hex.1⟩
 have hlt:=Heap.lt_size ho
 refine wpAny_pyIter_slot hT PySem.F.slot_set_iter (wpAny_call_entry PySem.F.slot_set_iter hT ze4 ?_ (PySem.F.args_set_iter_1 _))
 unfold Builtin.«frozenset.__iter__»
 refine wpAny_bind (wpAny_pure ?_)
 refine wpAny_bind ?_
 unfold Builtin.Frozenset.sizeOf
 refine wpAny_bind (wpAny_setEntries_of ho hd hf (wpAny_pure ?_))
 refine wpAny_bind ?_
 unfold setDrawn
 refine wpAny_bind (wpAny_setState_of ho hd hf ?_)
 dsimp only
 refine wpAny_bind ?_
 unfold setsByText
 refine wpAny_bind (wpAny_askSetting (wpAny_pure (wpAny_pure ?_)))
 show wpAny _ _ (if (!w.params.followText "set-order" && (!t.plain && decide (es.size > 1)))=true then _ else _) _ _ _
 have slots:∀ {ord:List Value} (St:Addr->Nat->Heap->Prop),ord.Perm (es.toList.map (·.2))->(∀ (A':Around) (I:Addr),a≠I->A'.handled=none->Walks prog w A' I [I,a] [I] ord.length (fun i v=>ord[i]?=some v) (St I))->
   (∀ h' I,IsSI h' I a (.int (0:Nat) 0) 0 es.size ep->SetAt h' a es ep t->St I 0 h')->Q (.ref s.heap.objs.size) { s with heap:=s.heap.push { cls:=.type "set_iterator",data:=.fields #[.int (0:Nat) 0,.int (0:Nat) 0,.ref a,.int (es.size:Nat) 0,.int (ep:Nat) 0] } }:=by
  intro ord St hp hW hst
  have hne:a≠s.heap.objs.size:=Nat.ne_of_lt hlt
  exact h s.heap.objs.size [s.heap.objs.size,a] ord (St s.heap.objs.size) _ s.drawn hp (fun A' hh=>hW A' _ hne hh) (hst _ _ ⟨_,Heap.get?_push_size _ rfl,rfl,rfl⟩ (hS.at fun o e=>Heap.get?_push_of_some _ e)) (fun b o e=>Heap.get?_push_of_some _ e) (Nat.le_refl _)
   fun b hb=>by
    rcases List.mem_cons.mp hb with z | z
    ·exact .inr (by rw [z]; exact Nat.le_refl _)
    ·exact .inl (by simpa using z)
 by_cases hdr:(!w.params.followText "set-order" && (!t.plain && decide (es.size > 1)))=true
 ·rw [if_pos hdr]
  refine wpAny_bind (zfa _ _ _ _ (by simp) fun ys d' hy=>?_)
  refine wpAny_bind (wpAny_newTuple ?_ (by rw [List.length_map,hy.length_eq]; simpa using hz))
  have hT1:(s.heap.push { cls:=.type "tuple",data:=.seq (ys.map fun p:Nat=>rawInt p).toArray }).IsTuple s.heap.objs.size (ys.map fun p:Nat=>rawInt p).toArray:=⟨_,Heap.get?_push_size _ rfl,rfl,_,rfl⟩
  have hS1:=hS.at (h':=s.heap.push { cls:=.type "tuple",data:=.seq (ys.map fun p:Nat=>rawInt p).toArray }) fun o e=>Heap.get?_push_of_some _ e
  obtain ⟨o1,ho1,_,hd1⟩:=id hS1
  refine wpAny_bind (wpAny_setEpoch_of ho1 hd1 hf ?_)
  have hs1:(s.heap.push { cls:=.type "tuple",data:=.seq (ys.map fun p:Nat=>rawInt p).toArray }).objs.size=s.heap.objs.size + 1:=Heap.size_push _ _
  refine wpAny_bind (wpAny_newObj_type (wpAny_pure ⟨_,rfl,"set_iterator",_,⟨_,Heap.get?_push_size _ rfl,rfl⟩,z0.lookup,?_⟩))
  have hy2:(ys.map fun p=>(es.getD p (0,Value.none)).2).Perm (es.toList.map (·.2)):=by
   refine (hy.map _).trans ?_
   have e:(List.range es.size).map (fun p=>(es.getD p (0,Value.none)).2)=es.toList.map (·.2):=by
    refine List.ext_getElem (by simp) fun i h1 h2=>?_
    simp at h1
    simp [Array.getD,h1]
   rw [e]
  have hol:(ys.map fun p=>(es.getD p (0,Value.none)).2).length=es.size:=by rw [List.length_map,hy.length_eq]; simp
  refine h (s.heap.push { cls:=.type "tuple",data:=.seq (ys.map fun p:Nat=>rawInt p).toArray }).objs.size [_,a,s.heap.objs.size] _ (fun i h=>IsSI h (s.heap.push { cls:=.type "tuple",data:=.seq (ys.map fun p:Nat=>rawInt p).toArray }).objs.size a (.ref s.heap.objs.size) i es.size ep /\ h.IsTuple s.heap.objs.size (ys.map fun p:Nat=>rawInt p).toArray /\ SetAt h a es ep t) _ d' hy2 (fun A' hh=>by rw [hol]; exact zjf (t:=t) (ep:=ep) hf hy (by rw [hs1]; exact Nat.ne_of_lt (Nat.lt_succ_of_lt hlt)) (by rw [hs1]; exact Nat.ne_of_lt (Nat.lt_succ_self _)) hh)
   ⟨⟨_,Heap.get?_push_size _ rfl,rfl,by simp [rawInt]⟩,hT1.push _,hS1.at fun o e=>Heap.get?_push_of_some _ e⟩ (fun b o e=>Heap.get?_push_of_some _ (Heap.get?_push_of_some _ e)) (by rw [hs1]; exact Nat.le_succ _) fun b hb=>?_
  simp only [List.mem_cons,List.not_mem_nil,or_false] at hb
  rcases hb with z | z | z
  ·exact .inr (by rw [z,hs1]; exact Nat.le_succ _)
  ·exact .inl z
  ·exact .inr (by rw [z]; exact Nat.le_refl _)
 ·rw [if_neg hdr]
  refine wpAny_bind (wpAny_pure ?_)
  refine wpAny_bind (wpAny_setEpoch_of ho hd hf ?_)
  refine wpAny_bind (wpAny_newObj_type (wpAny_pure ⟨_,rfl,"set_iterator",_,⟨_,Heap.get?_push_size _ rfl,rfl⟩,z0.lookup,?_⟩))
  cases hw:w.params.followText "set-order" with
  | true=>
    have hpz:((pickOrder (w.params.setOrder a ep) es).toList.map (·.2)).length=(pickOrder (w.params.setOrder a ep) es).size:=by simp
    exact slots (ord:=(pickOrder (w.params.setOrder a ep) es).toList.map (·.2)) (fun I i h=>IsSI h I a (.int (0:Nat) 0) i es.size ep /\ SetAt h a es ep t) ((zma _ _).map _) (fun A' I hne hh=>by rw [hpz]; exact zk6 hf hw hne hh) fun h' I x y=>⟨x,y⟩
  | false=>
    rw [hw] at hdr
    have hpl:(!t.plain && decide (es.size > 1))=false:=by simpa using hdr
    have hle:t.led=true:=by rw [hl]; simp [ledOf,hw]
    have hpz:(es.toList.map (·.2)).length=es.size:=by simp
    refine slots (ord:=es.toList.map (·.2)) (fun I i h=>∃ slot:Nat,IsSI h I a (.int slot 0) i es.size ep /\ SetAt h a es ep t /\ (∀ k,k < i->t.place.getD k 0 < slot) /\ ∀ k,i<=k->k < t.place.size->slot<=t.place.getD k 0) (.refl _)
     (fun A' I hne hh=>by rw [hpz]; exact zjj hf hw hle hpl hr hne hh) fun h' I x y=>⟨0,x,y,fun k hk=>by omega,fun k _ _=>Nat.zero_le _⟩
end
end LS
namespace LS
open PySem PySem.Spec PySem.Calls PyProof.Rows
section
variable {prog:Program} {w:World} {A:Around} {E:Value->Shared->Prop} {s:Shared} {a:Addr} {ns:List Int}
theorem zmb {Q:Bool->Shared->Prop} (hT:s.TypeIs (.ref a) "set") (h:Q false s):wpAny (model prog w) A (Builtin.List.listLengthHint (.ref a)) Q E s:=by
 unfold Builtin.List.listLengthHint
 refine wpAny_bind (wpAny_specialOf hT PySem.F.slot_set_len.lookup ?_)
 generalize hid:("set.__len__":String)=id0
 wp_delta
 rw [show splitId id0=some ("set","__len__") from by subst hid; decide +kernel]
 subst hid
 refine wpAny_bind (wpAny_isInstance (T:="set") (b:=true) hT (by rw [isSubtype_type]; kernel_rfl) ?_)
 refine wpAny_ite_split (fun z=>absurd z (by decide)) fun _=>?_
 refine wpAny_ite_split (fun _=>?_) fun z=>absurd (by decide +kernel) z
 exact wpAny_bind (wpAny_typeOf hT (wpAny_pure h))
theorem zhO {R:List Value->Shared->Prop} (hh:A.handled=none) (hS:ISet prog w s.heap a (ledOf w) ns)
  (h:∀ (h':Heap) (tk:Nat) (d':Drawn) (vs:List Value) (ms:List Int),(∀ b o,s.heap.get? b=some o->h'.get? b=some o)->s.heap.objs.size < h'.objs.size->IntsAre vs ms->ms.Perm ns->R vs { s with heap:=h',toks:=tk,drawn:=d' }):
  wpAny (model prog w) A (collect (.ref a)) R E s:=by
 obtain ⟨o,es,ep,t,ho,hex,hd,h1,h2,h3,h4,h5,h6,h7⟩:=hS
 have hz:=fits_of_scanBound h4
 have hlt:=Heap.lt_size ho
 have hS0:SetAt s.heap a es ep t:=⟨o,ho,hex,hd⟩
 unfold collect
 refine wpAny_bind (wpAny_runValue (codeAny_builtin entry_proto_collect' ?_))
 rw [Around.under_plainId PySem.F.plain_proto_collect _]
 show wpAny _ A.in1 (newList [] >>= fun l=>again (.builtin "list.__iadd__" ⟨[l,.ref a],[]⟩)) _ _ s
 refine wpAny_bind (wpAny_newObj_type ?_)
 refine wpAny_pure ⟨plainId_quiet PySem.F.plain_list_iadd _,codeAny_builtin entry_list_iadd' ?_⟩
 rw [Around.under_plainId PySem.F.plain_list_iadd _]
 generalize hP:s.heap.push { cls:=.type "list",data:=.seq ([]:List Value).toArray }=P1
 have keep1:∀ b o,s.heap.get? b=some o->P1.get? b=some o:=fun b o e=>by rw [<- hP]; exact Heap.get?_push_of_some _ e
 have hL:P1.get? s.heap.objs.size=some { cls:=.type "list",data:=.seq #[] }:=by rw [<- hP]; exact Heap.get?_push_size _ rfl
 have hz1:P1.objs.size=s.heap.objs.size + 1:=by rw [<- hP]; exact Heap.size_push _ _
 show wpAny _ A.in1 (Builtin.List.listExtendWith (.ref s.heap.objs.size) (.ref a) (.ref s.heap.objs.size)) _ _ { s with heap:=P1 }
 have key:wpAny (model prog w) A.in1 (Builtin.List.listExtendWith (.ref s.heap.objs.size) (.ref a) (.ref s.heap.objs.size))
   (fun fin s'=>match fin with
    | .done f=>False
    | .again c'=>c'.quiet=true /\ codeAny (model prog w) A c' (fun q s'=>∃ (h':Heap) (tk:Nat) (d':Drawn) (acc:Array Value) (c':Nat) (ms:List Int),q=.ok (.ret (.ref s.heap.objs.size)) /\ s'={ s with heap:=h',toks:=tk,drawn:=d' } /\
      (∀ b o,s.heap.get? b=some o->h'.get? b=some o) /\ h'.get? s.heap.objs.size=some { cls:=.type "list",dict:=none,data:=.seq acc c',slots:=#[] } /\ IntsAre acc.toList ms /\ ms.Perm ns) s') (fun _ _=>False) { s with heap:=P1 }:=by
  unfold Builtin.List.listExtendWith
  have hS1:=hS0.at (h':=P1) fun o e=>keep1 a o e
  obtain ⟨o1,ho1,hex1,hd1⟩:=id hS1
  refine wpAny_bind (wpAny_typeOf (T:="set") ⟨o1,ho1,hex1.1⟩ ?_)
  have q1:Builtin.List.listSameRef (.ref s.heap.objs.size) (.ref a)=false:=by simp [Builtin.List.listSameRef,Nat.ne_of_gt hlt]
  have q2:(Value.type "set" == Value.type "list")=false:=by decide
  have q3:(Value.type "set" == Value.type "tuple")=false:=by decide
  simp only [q1,q2,q3,Bool.or_false,Bool.false_eq_true,if_false]
  refine wpAny_bind (zmx (s:={ s with heap:=P1 }) hS1 h5 h7 h6 hz fun I fp ord St hh1 d1 hp hW st0 kp hI hfp=>?_)
  replace kp:∀ b o,P1.get? b=some o->hh1.get? b=some o:=kp
  replace hI:P1.objs.size<=I:=hI
  replace hfp:∀ b∈fp,b=a \/ P1.objs.size<=b:=hfp
  have hSf:s.heap.objs.size∉fp:=fun z=>by
   rcases hfp _ z with e | e
   ·exact Nat.lt_irrefl _ (e ▸ hlt)
   ·rw [hz1] at e; exact Nat.not_succ_le_self _ e
  have hSI:s.heap.objs.size≠I:=fun z=>by rw [<- z,hz1] at hI; exact Nat.not_succ_le_self _ hI
  obtain ⟨o2,ho2,hex2,_⟩:=hS1.at (h':=hh1) fun o e=>kp a o e
  obtain ⟨i0,hi0⟩:=zeQ h2 hp
  have hol:ord.length<=sizeLine:=by rw [hp.length_eq]; simpa using hz
  have run:∀ (g:Heap) (c0:Nat),St 0 g->(∀ b o,b≠s.heap.objs.size->hh1.get? b=some o->g.get? b=some o)->g.get? s.heap.objs.size=some { cls:=.type "list",data:=.seq #[] c0 }->
    codeAny (model prog w) A (.builtin "list.extend.loop" ⟨[.ref s.heap.objs.size,.ref I,.ref s.heap.objs.size],[]⟩) (fun q s'=>∃ (h':Heap) (tk:Nat) (d':Drawn) (acc:Array Value) (c':Nat) (ms:List Int),q=.ok (.ret (.ref s.heap.objs.size)) /\ s'={ s with heap:=h',toks:=tk,drawn:=d' } /\
     (∀ b o,s.heap.get? b=some o->h'.get? b=some o) /\ h'.get? s.heap.objs.size=some { cls:=.type "list",dict:=none,data:=.seq acc c',slots:=#[] } /\ IntsAre acc.toList ms /\ ms.Perm ns) { s with heap:=g,drawn:=d1 }:=by
   intro g c0 st k hg
   refine codeAny_extend_loopS (hW A.in1 hh).toS hol _ hSf _ ord.length 0 _ #[] c0 rfl (Nat.zero_le _) st hg (ItemsOf.nil _) fun s' acc' c' mv hS' hacc=>?_
   obtain ⟨hx,gx,dx,tx,ox⟩:=s'
   have eg:gx=s.gens:=mv.gens
   have ed:dx=d1:=mv.drawn
   have eo:ox=s.os:=mv.os
   subst eg ed eo
   have eacc:acc'.toList=ord:=by
    refine List.ext_getElem? fun j=>?_
    by_cases hj:j < acc'.size
    ·have q:=hacc.2 j _ (Array.getElem?_eq_getElem hj)
     rw [q]; simp [hj]
    ·rw [List.getElem?_eq_none (by simp; omega),List.getElem?_eq_none (by rw [<- hacc.1]; omega)]
   refine ⟨hx,tx,dx,acc',c',i0,rfl,rfl,fun b o e=>?_,hS',by rw [eacc]; exact hi0.1,hi0.2⟩
   have hb:=Heap.lt_size e
   refine mv.heap b o ?_ (k b o (Nat.ne_of_lt hb) (kp b o (keep1 b o e)))
   simp only [List.mem_cons,List.not_mem_nil,or_false,not_or]
   exact ⟨Nat.ne_of_lt hb,Nat.ne_of_lt (Nat.lt_of_lt_of_le hb (Nat.le_trans (by rw [hz1]; exact Nat.le_succ _) hI))⟩
  have hg1:hh1.get? s.heap.objs.size=some { cls:=.type "list",data:=.seq #[] }:=kp _ _ hL
  refine wpAny_bind (wpAny_holding (zmb ⟨o2,ho2,hex2.1⟩ ?_))
  refine wpAny_ite_split (fun _=>?_) (fun _=>wpAny_pure ⟨plainId_quiet PySem.F.plain_extend_loop _,run hh1 0 st0 (fun b o _ e=>e) hg1⟩)
  refine wpAny_bind (wpAny_rule (wpAny_bind ?_))
  show wpAny _ _ (updateSeq s.heap.objs.size (·.push .none) >>= fun _=>updateSeq s.heap.objs.size (·.pop)) _ _ _
  refine wpAny_bind (wpAny_updateSeq hg1 rfl ?_)
  have hg2:=Heap.get?_update_self (Obj.mapSeq (·.push Value.none)) hg1 rfl
  refine wpAny_updateSeq (hz:=by seq_fits) hg2 rfl ?_
  have hg3:=Heap.get?_update_self (Obj.mapSeq (·.pop)) hg2 rfl
  refine wpAny_pure ⟨plainId_quiet PySem.F.plain_extend_loop _,run _ _ ((hW A.in1 hh).frame 0 _ _ st0 fun b hb o e=>?_) (fun b o hb e=>?_) hg3⟩
  ·have hbS:b≠s.heap.objs.size:=fun z=>hSf (z ▸ hb)
   exact (Heap.get?_update_other _ _ (Ne.symm hbS)).trans ((Heap.get?_update_other _ _ (Ne.symm hbS)).trans e)
  ·exact (Heap.get?_update_other _ _ (Ne.symm hb)).trans ((Heap.get?_update_other _ _ (Ne.symm hb)).trans e)
 refine wpAny_mono key (fun fin s' x=>?_) fun _ _ z=>z.elim
 cases fin with
 | done f=>exact x.elim
 | again c₁=>
   refine ⟨x.1,codeAny_mono x.2 fun q s₂ y=>?_⟩
   obtain ⟨h',tk,d',acc,c',ms,rfl,rfl,hk,hS',i1,p1⟩:=y
   show wpAny _ A (load s.heap.objs.size >>= _) _ _ _
   exact wpAny_bind (wpAny_load hS' (wpAny_pure (h h' tk d' acc.toList ms hk (Heap.lt_size hS') i1 p1)))
theorem zei {Q:Value->Shared->Prop} (hh:A.handled=none) (hS:ISet prog w s.heap a (ledOf w) ns) (h64:ns.length < 64)
  (h:∀ (D:Addr) (h':Heap) (tk:Nat) (d':Drawn) (out:Array Value) (n:Nat) (ms:List Int),s.heap.objs.size<=D->(∀ b o,s.heap.get? b=some o->h'.get? b=some o)->h'.get? D=some (seqObj "list" out n)->IntsAre out.toList ms->ms.Perm ns->ms.Pairwise (·<=·)->Q (.ref D) { s with heap:=h',toks:=tk,drawn:=d' }):
  wpAny (model prog w) A (call (.builtin "sorted") [.ref a]) Q E s:=by
 refine call_function_entry kind_sorted plain_sorted entry_sorted (args_sorted1 _) ?_
 unfold Builtin.«sorted»
 refine wpAny_bind (m:=checkCount "sorted" 1 1 _) (wpAny_pure ?_)
 refine wpAny_bind (zhO (A:=A.in1) hh hS fun h' tk d' vs ms hk hgr hi hp=>?_)
 have hl:vs.length=ns.length:=by rw [<- hp.length_eq,(zaR.mp hi).2,List.length_map]
 have hzl:vs.length<=sizeLine:=by rw [sizeLine_eq]; omega
 refine wpAny_bind (wpAny_newList ?_ hzl)
 have hoL:(h'.push (seqObj "list" vs.toArray 0)).get? h'.objs.size=some (seqObj "list" vs.toArray 0):=Heap.get?_push_size _ rfl
 refine wpAny_bind (wpAny_holding (wpAny_call_entry slot_list_sort ⟨_,hoL,rfl⟩ entry_list_sort (list_sort_tree hoL hi (by omega) fun out ms' a1 a2 a3=>⟨_,rfl,?_⟩) (args_list_sort _)))
 obtain ⟨en,hen⟩:=sortedHeap_at (out:=out) hoL
 refine wpAny_pure ⟨_,rfl,h h'.objs.size _ tk d' out en ms' (Nat.le_of_lt hgr) (fun b o e=>?_) hen a1 (a2.trans hp) a3⟩
 have hb:=Heap.lt_size (hk b o e)
 rw [sortedHeap_old (Nat.ne_of_lt hb) (by rw [size_push']; exact Nat.lt_succ_of_lt hb)]
 exact Heap.get?_push_of_some _ (hk b o e)
end
end LS
namespace L2
open PySem PySem.Spec PyProof.Rows LS
noncomputable def ins (x:Int):List Int->List Int
 | []=>[x]
 | y :: l=>if x < y then x :: y :: l else if x=y then y :: l else y :: ins x l
noncomputable def ss:List Int->List Int
 | []=>[]
 | x :: l=>ins x (ss l)
set_option tactic.hygienic true in
theorem zhL {x z:Int}:∀ {l:List Int},z∈ins x l↔z=x \/ z∈l
 | []=>by simp [ins]
 | y :: l=>by
   rw [ins]
   split
   ·simp
   ·split
    ·rename_i h; subst h; simp
    ·simp only [List.mem_cons,zhL]
     constructor
     ·rintro (h | h | h)
      ·exact .inr (.inl h)
      ·exact .inl h
      ·exact .inr (.inr h)
     ·rintro (h | h | h)
      ·exact .inr (.inl h)
      ·exact .inl h
      ·exact .inr (.inr h)
set_option tactic.hygienic true in
theorem ze9 {x:Int}:∀ {l:List Int},l.Pairwise (· < ·)->(ins x l).Pairwise (· < ·)
 | [],_=>by simp [ins]
 | y :: l,h=>by
   rw [List.pairwise_cons] at h
   rw [ins]
   split
   ·rename_i hxy
    refine List.pairwise_cons.mpr ⟨fun z hz=>?_,List.pairwise_cons.mpr h⟩
    rcases List.mem_cons.mp hz with e | e
    ·rw [e]; exact hxy
    ·exact Int.lt_trans hxy (h.1 z e)
   ·split
    ·exact List.pairwise_cons.mpr h
    ·refine List.pairwise_cons.mpr ⟨fun z hz=>?_,ze9 h.2⟩
     rcases zhL.mp hz with e | e
     ·rw [e]; omega
     ·exact h.1 z e
theorem zll {z:Int}:∀ {l:List Int},z∈ss l↔z∈l
 | []=>by simp [ss]
 | x :: l=>by rw [ss,zhL,zll,List.mem_cons]
theorem zcH:∀ {l:List Int},(ss l).Pairwise (· < ·)
 | []=>.nil
 | _ :: _=>ze9 zcH
theorem zfu:∀ {l m:List Int},l.Pairwise (· < ·)->m.Pairwise (· < ·)->(∀ z,z∈l↔z∈m)->l=m
 | [],[],_,_,_=>rfl
 | [],y :: m,_,_,h=>absurd ((h y).mpr List.mem_cons_self) (by simp)
 | x :: l,[],_,_,h=>absurd ((h x).mp List.mem_cons_self) (by simp)
 | x :: l,y :: m,hl,hm,h=>by
   rw [List.pairwise_cons] at hl hm
   have e:x=y:=by
    rcases List.mem_cons.mp ((h x).mp List.mem_cons_self) with a | a
    ·exact a
    ·rcases List.mem_cons.mp ((h y).mpr List.mem_cons_self) with b | b
     ·exact b.symm
     ·have:=hl.1 y b
      have:=hm.1 x a
      omega
   subst e
   rw [zfu hl.2 hm.2 fun z=>⟨fun hz=>?_,fun hz=>?_⟩]
   ·rcases List.mem_cons.mp ((h z).mp (List.mem_cons_of_mem _ hz)) with a | a
    ·have:=hl.1 z hz; omega
    ·exact a
   ·rcases List.mem_cons.mp ((h z).mpr (List.mem_cons_of_mem _ hz)) with a | a
    ·have:=hm.1 z hz; omega
    ·exact a
theorem zpt {l m:List Int} (hm:m.Pairwise (· < ·)) (h:∀ z,z∈m↔z∈l):ss l=m:=zfu zcH hm fun z=>by rw [zll,h]
section
variable {X:Cx} {pins:List (Addr×Obj)} {σ:St} {H:Hp} {s:Shared}
theorem Inv.drew (I:Inv X pins σ H s) (d':Drawn):Inv X pins σ H { s with drawn:=d' }:=
 I.step (d':=d') (g':=s.gens) (t':=s.toks) (ch:=[]) (fun b hb=>by simp at hb) (fun _ _ _ _ _ e _=>e) (fun b o _ _ _ e _=>⟨o.slots,e⟩) (fun _ _ _ _ n=>n) (fun b o _ e=>⟨o,e⟩) (fun _ _ e=>e) (fun _ _ _ e=>e)
  (fun b ps e=>⟨#[],by rw [e]; simp⟩) (fun _ h=>h) I.hok I.bare
noncomputable def SetO (P:Program) (w:World) (a:Addr) (ns:List Int):HO:=.ext fun h=>ISet P w h a (ledOf w) ns
noncomputable def rSet (P:Program) (w:World) (K:PySem.W.Frag):List V->Hp->VK->Prop:=fun xs H Q=>∃ (p:Addr) (ms:List Int),xs=[.ref p] /\ (SqL K H p (ms.map V.int) \/ SqT K H p (ms.map V.int)) /\ ms.length + 1 < scanBound /\
 ∀ (l:Addr) (ns:List Int),H l=none->(∀ x,x∈ns↔x∈ms)->ns.length<=ms.length->Q (.ref l) (upd H l (SetO P w l ns))
theorem zkz (hc:X.calm=true):CallR X (.type "set") (rSet X.prog X.w X.K):=by
 intro pins s σ H xs us Q I r h
 obtain ⟨p,ms,rfl,hq,hb,q⟩:=h
 obtain ⟨u,rfl,rx⟩:=vals1 r
 cases rx
 have hh:=I.ok.hd hc
 have fin:∀ (h':Heap) (tk:Nat) (ns:List Int),ISet X.prog X.w h' s.heap.objs.size (ledOf X.w) ns->(∀ x,x∈ns↔x∈ms)->ns.length<=ms.length->(∀ b o,s.heap.get? b=some o->h'.get? b=some o)->EP X pins σ Q (.ref s.heap.objs.size) { s with heap:=h',toks:=tk }:=fun h' tk ns S m l k=>
  ⟨.ref s.heap.objs.size,_,I.laid (o:=SetO X.prog X.w s.heap.objs.size ns) k (Nat.le_refl _) ⟨S,(let ⟨o,_,_,_,e,_⟩:=S; ⟨o,e⟩),fun h1 h2 S1 kk=>S1.keeps kk⟩,rfl,q _ ns (I.hok.fresh (Nat.le_refl _)) m l⟩
 rcases hq with hq | hq
 ·obtain ⟨its,rv,pl,_⟩:=I.list hq
  have hi:IntsAre its ms:=zfn rv
  have hl:its.length=ms.length:=by rw [(zaR.mp hi).2,List.length_map]
  exact ziL hh (zm8 pl.isList) hi (by rw [List.size_toArray,hl]; exact hb) fin
 ·obtain ⟨its,rv,pl,_⟩:=I.tuple hq
  have hi:IntsAre its ms:=zfn rv
  have hl:its.length=ms.length:=by rw [(zaR.mp hi).2,List.length_map]
  exact ziL hh (zlX (show s.heap.IsTuple p its.toArray from pl)) hi (by rw [List.size_toArray,hl]; exact hb) fin
noncomputable def rSortSet (P:Program) (w:World):List V->Hp->VK->Prop:=fun xs H Q=>∃ (p:Addr) (ns:List Int),xs=[.ref p] /\ H p=some (SetO P w p ns) /\ ns.length < 64 /\ ∀ (l:Addr) (out:List Int),H l=none->out.Pairwise (· < ·)->(∀ x,x∈out↔x∈ns)->Q (.ref l) (upd H l (.lst (out.map V.int)))
theorem ziG:∀ {vs:List Value} {ns:List Int},IntsAre vs ns->Vals (ns.map V.int) vs
 | _,_,.nil=>.nil
 | _,_,.cons n t h=>.cons ⟨t,rfl⟩ (ziG h)
theorem zou {prog:Program} {w:World} {h:Heap} {a:Addr} {led:Bool} {ns:List Int} (h:ISet prog w h a led ns):ns.Nodup:=by
 obtain ⟨_,_,_,_,_,_,_,_,_,z,_⟩:=h
 exact z
theorem zha (hc:X.calm=true):CallR X (.builtin "sorted") (rSortSet X.prog X.w):=by
 intro pins s σ H xs us Q I r h
 obtain ⟨p,ns,rfl,hp,h64,q⟩:=h
 obtain ⟨u,rfl,rx⟩:=vals1 r
 cases rx
 have hS:ISet X.prog X.w s.heap p (ledOf X.w) ns:=(show ObjOk X.prog X.w H s.heap p (SetO X.prog X.w p ns) from I.hok p _ hp).1
 have nd:ns.Nodup:=zou hS
 refine zei (I.ok.hd hc) hS h64 fun D h' tk d' out n ms hD k e hi hperm hsort=>?_
 have hl:ms.length=ns.length:=hperm.length_eq
 have J:=(I.drew d').laid (t':=tk) (o:=.lst (ms.map V.int)) (h':=h') k hD ⟨by rw [List.length_map,sizeLine_eq]; omega,out.toList,n,ziG hi,by simpa using e⟩
 refine ⟨.ref D,_,J,rfl,q D ms (I.hok.fresh hD) ?_ fun x=>hperm.mem_iff⟩
 have nd2:ms.Nodup:=hperm.nodup_iff.mpr nd
 refine (List.Pairwise.and hsort nd2).imp fun {a b} hab=>?_
 have:=hab.1
 have:=hab.2
 omega
end
theorem zqy:bootBuiltins "set"=some (.type "set"):=by decide +kernel
theorem zlC:bootBuiltins "sorted"=some (.builtin "sorted"):=by decide +kernel
noncomputable def intsD:List D->Option (List Int)
 | []=>some []
 | .int i :: l=>(intsD l).map (i :: ·)
 | _ :: _=>none
theorem zhe:∀ (ns:List Int),intsD (ns.map .int)=some ns
 | []=>rfl
 | n :: ns=>by rw [List.map_cons,intsD,zhe ns]; rfl
theorem zdV:∀ {l:List D} {ns:List Int},intsD l=some ns->l=ns.map .int
 | [],_,h=>by cases h; rfl
 | d :: l,ns,h=>by
   cases d with
   | int i=>
     rw [intsD] at h
     cases e:intsD l with
     | none=>rw [e] at h; cases h
     | some m=>rw [e] at h; cases h; rw [zdV e]; rfl
   | _=>cases h
noncomputable def dRow:D->Option (List D)
 | .list l=>some l
 | .tuple l=>some l
 | _=>none
noncomputable def gSS (g:DS->Option D):DS->Option (List D):=fun δ=>(g δ).bind fun d=>(dRow d).bind fun l=>(intsD l).bind fun ns=>if ns.length < 64 then some ((ss ns).map .int) else none
theorem HDs.toInts {K:PySem.W.Frag} {H:Hp}:∀ {ns:List Int} {xs:List V},HDs K H xs (ns.map PyData.int)->xs=ns.map V.int
 | [],_,h=>by cases h; rfl
 | n :: ns,_,h=>by
   rw [List.map_cons] at h
   cases h with
   | cons a t=>cases a; rw [HDs.toInts t]; rfl
set_option tactic.hygienic true in
theorem zdE {X:Cx} {O:List Nat} {e:Expr} {ge:DS->Option D} {p1 p2 q1 q2:Pos} (h1:X.mg "sorted"=none) (h2:X.mg "set"=none) (he:PE X e (tSh X.K O ge)) (hc:X.calm=true:=by rfl) (g1:Gl X "sorted":=by rfl) (g2:Gl X "set":=by rfl)
  (s1:starEach [Expr.Call (.Name "set" p2) [e] [] q2] X.env=(false,eval (Expr.Call (.Name "set" p2) [e] [] q2) X.env) :: starEach [] X.env:=by rfl) (s2:starEach [e] X.env=(false,eval e X.env) :: starEach [] X.env:=by rfl)
  (b1:(backTo q1 (starEach [] X.env)).any (·.1)=false:=by rfl) (b2:(backTo q2 (starEach [] X.env)).any (·.1)=false:=by rfl):
  PE X (.Call (.Name "sorted" p1) [.Call (.Name "set" p2) [e] [] q2] [] q1) (tN X.K O (gSS ge)):=
 (zdr (zha hc) g1 h1 zlC (zZ (zeZ (zkz hc) g2 h2 zqy (zZ he za2 s2) (by decide) (by decide) s2 b2) za2 s1) (by decide) (by decide) s1 b1).mono fun σ H Q hh=>hh.e fun U A0 δ ds R ed q=>by
  obtain ⟨d,e1,ed⟩:=bind1 ed
  obtain ⟨l,e2,ed⟩:=bind1 ed
  obtain ⟨ns,e3,ed⟩:=bind1 ed
  split at ed
  ·rename_i h64
   cases ed
   refine ⟨U,A0,δ,d,R,e1,fun v H1 s1 hv=>?_⟩
   have row:∃ p,v=.ref p /\ (SqL X.K H1 p (ns.map V.int) \/ SqT X.K H1 p (ns.map V.int)):=by
    unfold dRow at e2
    split at e2
    ·cases e2
     obtain ⟨p,xs,rfl,r1,r2⟩:=hv.list
     rw [zdV e3] at r2
     rw [<- r2.toInts]
     exact ⟨p,rfl,.inl r1.sq⟩
    ·cases e2
     obtain ⟨p,xs,rfl,r1,r2⟩:=hv.tuple
     rw [zdV e3] at r2
     rw [<- r2.toInts]
     exact ⟨p,rfl,.inr r1⟩
    ·cases e2
   obtain ⟨p,rfl,hrow⟩:=row
   refine ⟨p,ns,rfl,hrow,by unfold scanBound; omega,fun l1 ms hl1 hm hle=>?_⟩
   refine ⟨l1,ms,rfl,z8,by omega,fun l2 out hl2 hr hm2=>?_⟩
   have eo:out=ss ns:=(zpt hr fun z=>by rw [hm2,hm]).symm
   subst eo
   refine q l2 _ _ (s1.trans ((z9 hl1 _).trans (z9 hl2 _))) (s1.free ((z9 hl1 _).free hl2)) z8 (HDs.ints _)
  ·cases ed
end L2
namespace L2
open PySem PySem.Spec PyProof.Rows
section
variable {prog:Program} {w:World} {A:Around} {R:Result->Shared->Prop} {s:Shared}
theorem zgW {elt target iter:Expr} {ifs:List Expr} {scope:Scope} {pos:Pos} {it acc:Value} {env:Env} (I:Nat->Shared->Prop)
  (turn:∀ n s,I n s->wpAny (model prog w) A (pyNext it) (fun r s₁=>match r with
   | none=>R (.ok .next) s₁
   | some v=>wpAny (model prog w) A (letOwnedTupleGo target it v) (fun _ s₂=>wpAny (model prog w) A (assign target env v) (fun _ s₃=>
     wpAny (model prog w) A (forIn ifs true fun c r=>if r=true then do let ok <- isTrue c env (eval c env); pure (ForInStep.yield ok) else pure (ForInStep.yield r)) (fun ok s₄=>
      if ok=true then wpAny (model prog w) A (eval elt env) (fun x s₅=>
       wpAny (model prog w) A (call (.builtin "list.append") [acc,x]) (fun _ s₆=>∃ m,m < n /\ I m s₆) (notedBy (model prog w) A env fun e s'=>R (.error e) s') s₅) (notedBy (model prog w) A env fun e s'=>R (.error e) s') s₄
      else ∃ m,m < n /\ I m s₄) (notedBy (model prog w) A env fun e s'=>R (.error e) s') s₃) (notedBy (model prog w) A env fun e s'=>R (.error e) s') s₂) (notedBy (model prog w) A env fun e s'=>R (.error e) s') s₁) (notedBy (model prog w) A env fun e s'=>R (.error e) s') s)
  (n:Nat) (h:I n s):codeAny (model prog w) A (.compLoop (.ListComp elt [⟨target,iter,ifs,0⟩] scope pos) 0 it acc env) R s:=by
 refine codeAny_loop rfl I (fun n s hI=>?_) n h
 show wpAny _ A ((compTurn (.ListComp elt [⟨target,iter,ifs,0⟩] scope pos) 0 it acc env).onRaise (fun x=>do noteFrame x env; theTreesLotGoes x)) _ _ s
 refine wpAny_noted ?_
 rw [compTurn_list]
 refine wpAny_bind (wpAny_standAt (wpAny_bind (wpAny_mono (turn n s hI) (fun r s₁ h₁=>?_) fun _ _ z=>z)))
 cases r with
 | none=>exact wpAny_pure h₁
 | some v=>
   refine wpAny_bind (wpAny_mono h₁ (fun _ s₂ h₂=>wpAny_bind (wpAny_mono h₂ (fun _ s₃ h₃=>wpAny_bind (wpAny_mono h₃ (fun ok s₄ h₄=>?_) fun _ _ z=>z)) fun _ _ z=>z)) fun _ _ z=>z)
   cases ok with
   | false=>exact wpAny_pure ⟨rfl,h₄⟩
   | true=>exact wpAny_bind (wpAny_bind (wpAny_mono h₄ (fun x s₅ h₅=>wpAny_bind (wpAny_mono h₅ (fun _ s₆ h₆=>wpAny_pure (wpAny_pure ⟨rfl,h₆⟩)) fun _ _ z=>z)) fun _ _ z=>z))
end
noncomputable def PF (X:Cx) (ifs:List Expr) (t:TT):Prop:=
 ∀ (pins:List (Addr×Obj)) (s:Shared) (σ:St) (H:Hp) (Q:Bool->Hp->Prop),Inv X pins σ H s->t σ H Q->
   wpAny (model X.prog X.w) X.A (forIn ifs true fun c r=>if r=true then do let ok <- isTrue c X.env (eval c X.env); pure (ForInStep.yield ok) else pure (ForInStep.yield r)) (TP X pins σ Q) X.xe s
noncomputable def tYes:TT:=fun _ H Q=>Q true H
theorem zpO {X:Cx}:PF X [] tYes:=fun _ _ _ H _ I q=>wpAny_pure ⟨H,I,q⟩
theorem zkd {X:Cx} {c:Expr} {t:TT} (h:PT X c t):PF X [c] t:=fun pins s σ H Q I q=>wpAny_tests_one (h pins s σ H Q I q)
section
variable {X:Cx}
structure CompScL (X:Cx) (scope:Scope) (xs:List Str) (ix:List Nat) (N':List Str):Prop where
 kind:scope.kind=.function
 nocell:∀ y∈scope.names,y.2≠.cell
 names:∀ y∈scope.names,y.2=.local->scope.names.lookup y.1=some .local
 free:∀ y∈scope.names,y.2=.free->X.env.kindOf y.1=some .cell \/ X.env.kindOf y.1=some .free
 only:∀ n,(X.env.scope.kind=.function)->((relabel scope X.env).names.lookup n=some .cell \/ (relabel scope X.env).names.lookup n=some .free)->(n,NameKind.free)∈scope.names
 nm:N'=xs ++ ix.map fun j=>X.N.getD j ""
 ixs:∀ j∈ix,j < X.N.length /\ (X.N.getD j "",NameKind.free)∈scope.names /\ ((relabel scope X.env).names.lookup (X.N.getD j "")=some .cell \/ (relabel scope X.env).names.lookup (X.N.getD j "")=some .free)
section
variable {scope:Scope} {xs:List Str} {ix:List Nat} {N':List Str} {cl:List (Str×Addr)} {C:Addr} {s2 s3:Shared} {H2:Hp} {fp:List Addr} {pins:List (Addr×Obj)} {σ:St}
theorem zmR (S:CompScL X scope xs ix N') (I:Inv X pins σ H2 s2) (hC:s2.heap.objs.size<=C) (h1:∀ n c,cl.lookup n=some c->X.env.cells.lookup n=some c) (h2:∀ n,(n,NameKind.free)∈scope.names->∃ c,cl.lookup n=some c)
  (hf:∀ b∈fp,FpOk X pins H2 b) (hfl:∀ b∈fp,b < s2.heap.objs.size):(compCx X scope N' cl C s2 H2 fp pins).Ok where
 mod:=I.ok.mod
 kind:=by show (relabel scope X.env).kind=_; exact S.kind
 glob:=I.ok.glob
 blt:=I.ok.blt
 above:=hC
 inj:=fun a b c e1 e2=>I.ok.inj a b c (h1 _ _ e1) (h1 _ _ e2)
 has:=fun a h=>h2 a (S.only a I.ok.kind h)
 cab:=fun a c h=>by cases h
 hd:=I.ok.hd
 frames:=I.ok.frames
 stk:=.inl rfl
 exf:=fun b hb=>⟨Nat.ne_of_lt (Nat.lt_of_lt_of_le (hfl b hb) hC),fun a c e=>(hf b hb).2.2.2.2.1 a c (h1 _ _ e)⟩
 bs:=I.bs
 bsz:=Nat.le_trans I.ok.bsz I.sz
 noex:=fun b o e hb=>by
  rcases (hf b hb).2.2.2.1 with z | z
  ·exact I.ok.noex b o e z
  ·have:=(I.ok.bs b o e).1
   exact absurd (Nat.lt_of_lt_of_le (Heap.lt_size this) z) (Nat.lt_irrefl _)
 exfs:=fun b hb z=>by
  rcases List.mem_cons.mp (I.stkSub b z) with e | e
  ·exact (hf b hb).2.1 e
  ·exact (hf b hb).2.2.1 e
 funs:=I.stack
 frf:=I.stkFree
theorem zl8 (S:CompScL X scope xs ix N') (I:Inv X pins σ H2 s2) (hC:s2.heap.objs.size<=C) (h1:∀ n c,cl.lookup n=some c->X.env.cells.lookup n=some c) (h2:∀ n,(n,NameKind.free)∈scope.names->∃ c,cl.lookup n=some c)
  (hf:∀ b∈fp,FpOk X pins H2 b) (hfl:∀ b∈fp,b < s2.heap.objs.size) (hs3:s3.os=s2.os) (hg:s3.gens=s2.gens) (k:∀ b o,s2.heap.get? b=some o->s3.heap.get? b=some o) {m:Str->Option Value} (hn:s3.heap.Ns C m):
  Inv (compCx X scope N' cl C s2 H2 fp pins) [] (List.replicate xs.length none ++ capt ix σ) H2 s3 where
 ok:=zmR S I hC h1 h2 hf hfl
 os:=hs3
 bare:=by rw [hg]; exact I.bare
 base:=⟨fun b o e _ _ _=>k b o e,fun b o e _ _ _=>⟨o.slots,k b o e⟩,fun b o e n _=>n,fun b o e _=>⟨o,k b o e⟩,fun _ _ e=>e,fun _ _ _ e=>e,fun b ps e=>⟨#[],by rw [Array.append_empty]; exact e⟩⟩
 loc:=by
  refine ⟨m,hn,fun i y v e1 e2 e3=>?_⟩
  by_cases hi:i < xs.length
  ·rw [List.getElem?_append_left (by simpa using hi),List.getElem?_replicate,if_pos hi] at e2
   cases e2
  ·have e2':(capt ix σ)[i - xs.length]?=some (some v):=by rw [List.getElem?_append_right (by simp; omega)] at e2; simpa using e2
   obtain ⟨j,ej,es⟩:=zmK e2'
   have e1':N'[i]?=some y:=e1
   rw [S.nm,List.getElem?_append_right (by omega),List.getElem?_map,ej] at e1'
   have ey:X.N.getD j ""=y:=Option.some.inj e1'
   obtain ⟨hj,hfr,hk⟩:=S.ixs j (List.mem_of_getElem? ej)
   obtain ⟨m0,hn0,hl0⟩:=I.loc
   have eN:X.N[j]?=some y:=by rw [<- ey,List.getD_eq_getElem?_getD,List.getElem?_eq_getElem hj]; rfl
   have kd:=S.free _ hfr rfl
   have hv:Vis X.env.scope y:=by
    rw [<- ey]
    rcases kd with z | z
    ·exact .inr (.inl z)
    ·exact .inr (.inr z)
   obtain ⟨u,r,l⟩:=hl0 j y v eN es hv
   refine ⟨u,r,.inr ?_⟩
   rcases l with ⟨q,_⟩ | ⟨_,c,ec,z⟩
   ·have kd':X.env.kindOf y=some .cell \/ X.env.kindOf y=some .free:=by rw [<- ey]; exact kd
    rcases kd' with w | w <;> rw [q] at w <;> cases w
   ·obtain ⟨c',e'⟩:=h2 _ hfr
    rw [ey] at e'
    have:=h1 _ _ e'
    rw [ec] at this; cases this
    obtain ⟨o,ho,hd⟩:=z
    exact ⟨by rw [<- ey]; exact hk,c,e',o,k c o ho,hd⟩
 cell:=fun a c e=>by
  obtain ⟨v,o,ho,hd⟩:=I.cell a c (h1 _ _ e)
  exact ⟨v,o,k c o ho,hd⟩
 free:=I.hok.fresh hC
 freeC:=fun a c e=>I.freeC a c (h1 _ _ e)
 pin:=fun p hp=>by
  have hp':p∈X.pn ++ pins:=by
   rcases List.mem_append.mp hp with z | z
   ·exact z
   ·simp at z
  obtain ⟨e,n,ne,nf,d⟩:=I.pin p hp'
  refine ⟨k _ _ e,n,Nat.ne_of_lt (Nat.lt_of_lt_of_le (Heap.lt_size e) hC),fun z=>?_,d⟩
  rcases List.mem_cons.mp (I.stkSub _ z) with q | q
  ·exact ne q
  ·exact nf q
 hok:=I.hok.kept k
 len:=by
  show (List.replicate xs.length none ++ capt ix σ).length=N'.length
  rw [S.nm]
  unfold capt
  simp
end
noncomputable def cBlockL (J:It) (k:Nat) (ix:List Nat) (g:TG) (tc:TT) (te:TE) (σ:St) (H:Hp) (Q:VK):Prop:=∃ W:Nat->Nat->List V->St->Hp->Prop,(∃ m,W 0 m [] (List.replicate k none ++ capt ix σ) H) /\ ∀ i m ys τ H,W i m ys τ H->ys.length<=sizeLine /\
 ((J.stop i H /\ ∀ p,H p=none->Q (.ref p) (upd H p (.lst ys))) \/ (J.go i H /\ ys.length < sizeLine /\ ∀ v H',J.yld i H v H'->g v τ H' fun τ2 H2=>tc τ2 H2 fun b H3=>
   if b=true then te τ2 H3 fun y H4=>∃ m',m' < m /\ W (i + 1) m' (ys ++ [y]) τ2 H4 else ∃ m',m' < m /\ W (i + 1) m' ys τ2 H3))
noncomputable def tCompL (wi:TI) (k:Nat) (ix:List Nat) (g:TG) (tc:TT) (te:TE):TE:=fun σ H Q=>wi σ H fun J H1=>cBlockL J k ix g tc te σ H1 Q
section
variable {scope:Scope} {xs:List Str} {ix:List Nat} {N':List Str} {elt iter tg:Expr} {ifs:List Expr} {pos:Pos} {wi:TI} {te:TE} {tc:TT} {g:TG}
structure CIn (X':Cx) (D:Addr) (fp:List Addr) (tn:Nat->Heap->Prop) (W:Nat->Nat->List V->St->Hp->Prop) (n:Nat) (s':Shared) (i:Nat) (ys:List V) (its:List Value) (k:Nat) (σ':St) (H':Hp):Prop where
 I:Inv X' [(D,lob its k)] σ' H' s'
 st:tn i s'.heap
 fr:∀ b∈fp,H' b=none
 w:W i n ys σ' H'
 rv:Vals ys its
noncomputable def CInv (X':Cx) (D:Addr) (fp:List Addr) (tn:Nat->Heap->Prop) (W:Nat->Nat->List V->St->Hp->Prop) (n:Nat) (s':Shared):Prop:=∃ i ys its k σ' H',CIn X' D fp tn W n s' i ys its k σ' H'
theorem zqE {X':Cx} {D:Addr} {fp:List Addr} {tn:Nat->Heap->Prop} {W:Nat->Nat->List V->St->Hp->Prop} {n:Nat} {s':Shared} {P:Prop} (h:CInv X' D fp tn W n s') (k:∀ i ys its k σ' H',CIn X' D fp tn W n s' i ys its k σ' H'->P):P:=by
 obtain ⟨_,_,_,_,_,_,t⟩:=h
 exact k _ _ _ _ _ _ t
theorem zq3 {gd:Cx->Prop} {X:Cx} {pins:List (Addr×Obj)} {σ:St} {tg:Expr} {R:It->Hp->Prop} {itv:Value} {s2:Shared} {P:Value->Prop} (h:PIEG gd X pins σ tg R itv s2) (k:∀ it fp tn J H',Inv X pins σ H' s2->TurnG gd X.prog X.w X.K tg J fp it tn->tn 0 s2.heap->(∀ b∈fp,FpOk X pins H' b)->R J H'->P (.ref it)):P itv:=by
 obtain ⟨it,fp,tn,J,H',rfl,a,b,c,d,e⟩:=h
 exact k it fp tn J H' a b c d e
theorem zhh (S:CompScL X scope xs ix N') {gd:Cx->Prop} (hc:∀ cl C s2 H2 fp pins,gd (compCx X scope N' cl C s2 H2 fp pins)) (hg:∀ cl C s2 H2 fp pins,PG (compCx X scope N' cl C s2 H2 fp pins) tg g) (hf:∀ cl C s2 H2 fp pins,PF (compCx X scope N' cl C s2 H2 fp pins) ifs tc) (helt:∀ cl C s2 H2 fp pins,PE (compCx X scope N' cl C s2 H2 fp pins) elt te)
  {pins:List (Addr×Obj)} {σ:St} {s2:Shared} {Q:VK} {itv:Value} (h:PIEG gd X pins σ tg (fun J H1=>cBlockL J xs.length ix g tc te σ H1 Q) itv s2) {cl:List (Str×Addr)} (h1:∀ n c,cl.lookup n=some c->X.env.cells.lookup n=some c) (h2:∀ n,(n,NameKind.free)∈scope.names->∃ c,cl.lookup n=some c)
  {use:Option (Value->Sem Unit)} {QQ:Value->Shared->Prop}
  (fin:∀ (D C:Addr) (H':Hp) (s1:Shared) (m:Str->Option Value),s1.heap.Ns C m->H' C=none->X.s₀.heap.objs.size<=C->C≠X.env.locals->(∀ a c,X.env.cells.lookup a=some c->c≠C)->(∀ p∈X.pn ++ pins,p.1≠C)->(∀ h',Heap.SameBut C s1.heap h'->Inv X pins σ H' { s1 with heap:=h' })->Q (.ref D) H'->
   compPost (model X.prog X.w) X.A X.xe use QQ (.ref D) C (.ok .next) s1):
  wpAny (model X.prog X.w) X.A (newList []) (fun acc s₃=>wpAny (model X.prog X.w) X.A (newFunctionEnv scope X.env.globals cl [] X.env.qual none .none (some X.env)) (fun cenv s₄=>
   codeAny (model X.prog X.w) X.A (.compStart (.ListComp elt [⟨tg,iter,ifs,0⟩] scope pos) 0 itv acc { cenv with scope:=relabel scope X.env }) (compPost (model X.prog X.w) X.A X.xe use QQ acc cenv.locals) s₄) X.xe s₃) X.xe s2:=by
 refine zq3 (P:=fun itv=>wpAny (model X.prog X.w) X.A (newList []) (fun acc s₃=>wpAny (model X.prog X.w) X.A (newFunctionEnv scope X.env.globals cl [] X.env.qual none .none (some X.env)) (fun cenv s₄=>
   codeAny (model X.prog X.w) X.A (.compStart (.ListComp elt [⟨tg,iter,ifs,0⟩] scope pos) 0 itv acc { cenv with scope:=relabel scope X.env }) (compPost (model X.prog X.w) X.A X.xe use QQ acc cenv.locals) s₄) X.xe s₃) X.xe s2) h fun it fp tn J H1 I2 T st2 f2 hR=>?_
 clear h
 obtain ⟨W,⟨m0,w0⟩,turn⟩:=hR
 have hfl:∀ b∈fp,b < s2.heap.objs.size:=fun b hb=>by
  obtain ⟨o,e,_⟩:=T.obj _ _ st2 b hb
  exact Heap.lt_size e
 refine wpAny_newObj_type (wpAny_newFunctionEnv S.nocell (by intro y hy; simp at hy) (fun h₁ hns₁ hsb₁=>?_) S.kind)
 dsimp only at hns₁ hsb₁ ⊢
 generalize hH2:s2.heap.push { cls:=.type "list",dict:=none,data:=.seq ([]:List Value).toArray }=P2 at hns₁ hsb₁ ⊢
 have hC:P2.objs.size=s2.heap.objs.size + 1:=by rw [<- hH2,Heap.size_push]
 have hDC:s2.heap.objs.size≠P2.objs.size:=by rw [hC]; exact Nat.ne_of_lt (Nat.lt_succ_self _)
 have hCle:s2.heap.objs.size<=P2.objs.size:=by rw [hC]; exact Nat.le_succ _
 have below:∀ b,b < s2.heap.objs.size->b≠P2.objs.size:=fun b hb=>by rw [hC]; exact Nat.ne_of_lt (Nat.lt_succ_of_lt hb)
 have old:∀ b o,s2.heap.get? b=some o->h₁.get? b=some o:=fun b o e=>hsb₁.extBut b o (below b (Heap.lt_size e)) (Heap.get?_push_of_some _ (hH2 ▸ Heap.get?_push_of_some _ e))
 have hacc:h₁.get? s2.heap.objs.size=some (lob [] 0):=hsb₁.extBut _ _ hDC (Heap.get?_push_of_some _ (hH2 ▸ Heap.get?_push_size _ rfl))
 generalize P2.objs.size=C at *
 generalize hDD:s2.heap.objs.size=D at *
 have neP:∀ p∈X.pn ++ pins,p.1≠D /\ p.1≠C:=fun p hp=>by
  have:=Heap.lt_size (I2.pin p hp).1
  rw [hDD] at this
  exact ⟨Nat.ne_of_lt this,Nat.ne_of_lt (Nat.lt_of_lt_of_le this hCle)⟩
 have DnF:D∉fp:=fun hb=>Nat.lt_irrefl _ (hfl D hb)
 have CnF:C∉fp:=fun hb=>absurd (Nat.lt_of_lt_of_le (hfl C hb) hCle) (Nat.lt_irrefl _)
 have cellD:∀ a c,X.env.cells.lookup a=some c->c≠D /\ c≠C:=fun a c e=>by
  obtain ⟨v,q⟩:=I2.cell a c e
  have:=q.lt
  rw [hDD] at this
  exact ⟨Nat.ne_of_lt this,Nat.ne_of_lt (Nat.lt_of_lt_of_le this hCle)⟩
 have locD:X.env.locals < D:=by have:=I2.lt; rw [hDD] at this; exact this
 have s0D:X.s₀.heap.objs.size<=D:=by rw [<- hDD]; exact I2.sz
 have I3:=zl8 (s3:={ s2 with heap:=h₁,toks:=s2.toks + ([]:List (Str×Value)).length }) S I2 (by rw [hDD]; exact hCle) h1 h2 f2 (by rw [hDD]; exact hfl) rfl rfl old hns₁
 have stat:∀ {H':Hp} {pp:List (Addr×Obj)},(∀ p∈pp,p.1∉fp)->(∀ b∈fp,H' b=none)->∀ b∈fp,FpOk (compCx X scope N' cl C s2 H1 fp pins) pp H' b:=fun {H' pp} hpp hn b hb=>by
  obtain ⟨f0,f1,f3,f4,f5,f6⟩:=f2 b hb
  refine ⟨hn b hb,fun z=>CnF (by rw [<- show b=C from z]; exact hb),fun z=>?_,.inl hb,fun a c e=>f5 a c (h1 _ _ e),fun p hp=>?_⟩
  ·rcases List.mem_cons.mp (I2.stkSub b z) with q | q
   ·exact f1 q
   ·exact f3 q
  ·rcases List.mem_append.mp hp with q | q
   ·exact f6 p q
   ·intro z; exact hpp p q (by rw [z]; exact hb)
 have DnS:∀ b,D<=b->b∉frs X.stack:=fun b hb z=>by
  rcases List.mem_cons.mp (I2.stkSub b z) with q | q
  ·rw [q] at hb; exact absurd (Nat.lt_of_lt_of_le locD hb) (Nat.lt_irrefl _)
  ·exact I2.nofs (by rw [hDD]; exact hb) q
 have loop:∀ s₃:Shared,s₃={ s2 with heap:=h₁,toks:=s2.toks + ([]:List (Str×Value)).length }->
   codeAny (model X.prog X.w) X.A (.compLoop (.ListComp elt [⟨tg,iter,ifs,0⟩] scope pos) 0 (.ref it) (.ref D) (compEnvC scope cl C X.env)) (compPost (model X.prog X.w) X.A X.xe use QQ (.ref D) C) s₃:=by
  rintro s₃ rfl
  refine zgW (CInv (compCx X scope N' cl C s2 H1 fp pins) D fp tn W) ?_ m0
   ⟨0,[],[],0,_,H1,?_,T.keep _ _ _ st2 (fun b hb o e=>old b o e),fun b hb=>(f2 b hb).1,w0,.nil⟩
  ·refine fun n s' z=>zqE z fun i ys its k σ' H' t=>?_
   have I:=t.I
   have st:=t.st
   have fr:=t.fr
   have rv:=t.rv
   obtain ⟨hz,w⟩:=turn i n ys σ' H' t.w
   have pD:=I.pin (D,lob its k) (List.mem_append_right _ List.mem_cons_self)
   have hpp:∀ p∈[(D,lob its k)],p.1∉fp:=fun p hp=>by
    have e:p=(D,lob its k):=by simpa using hp
    rw [e]; exact DnF
   rcases w with ⟨stop,q⟩ | ⟨go,hz',step⟩
   ·refine wpAny_mono (T.done (compCx X scope N' cl C s2 H1 fp pins) rfl rfl rfl (hc _ _ _ _ _ _) i _ s' _ H' (fun _ _=>False) I (stat hpp fr) st stop) (fun r s1 hr=>?_) fun _ _ z=>z.elim
    obtain ⟨rfl,I1⟩:=hr
    obtain ⟨m,hn,_⟩:=I1.loc
    have p1:=I1.pin (D,lob its k) (List.mem_append_right _ List.mem_cons_self)
    have fC:H' C=none:=I1.free
    refine fin D C (upd H' D (.lst ys)) s1 m hn (by rw [zH (Ne.symm hDC)]; exact fC) (Nat.le_trans s0D hCle) (Nat.ne_of_gt (Nat.lt_of_lt_of_le locD hCle)) (fun a c e=>(cellD a c e).2) (fun p hp=>(neP p hp).2) (fun h' hs=>?_) (q D p1.2.1)
    exact zkK (N':=N') I2 (by rw [hDD]; exact hCle) (by rw [hDD]; exact Nat.le_refl _) f2 I1 rv hz hs hDC
   ·refine wpAny_mono (T.item (compCx X scope N' cl C s2 H1 fp pins) rfl rfl rfl (hc _ _ _ _ _ _) i _ s' _ H' (fun _ _=>False) I (stat hpp fr) st go) (fun r s4 hr=>?_) fun _ _ z=>z.elim
    obtain ⟨u,rfl,h4⟩:=hr
    refine wpAny_mono h4 (fun _ s5 h5=>?_) fun _ _ z=>z.elim
    obtain ⟨v,H5,I5,r5,y5,st5,fr5⟩:=h5
    have I5':=I5.pinned (stat hpp fr5) (T.obj _ _ st5)
    refine wpAny_mono (hg cl C s2 H1 fp pins _ s5 σ' H5 v u _ I5' r5 (step v H5 y5)) (fun _ s6 h6=>?_) fun _ _ z=>z.elim
    obtain ⟨τ2,H6,I6,q6⟩:=h6
    have gone:∀ {τ:St} {H9:Hp} {s9:Shared},Inv (compCx X scope N' cl C s2 H1 fp pins) ([(D,lob its k)] ++ pinsAt fp s5.heap) τ H9 s9->tn (i + 1) s9.heap /\ ∀ b∈fp,H9 b=none:=fun {τ H9 s9} I9=>
     ⟨T.keep _ _ _ st5 fun b hb o e=>(I9.pin (b,o) (List.mem_append_right _ (List.mem_append_right _ (zbI hb e)))).1,fun b hb=>by
      obtain ⟨o,e,d⟩:=T.obj _ _ st5 b hb
      exact (I9.pin (b,o) (List.mem_append_right _ (List.mem_append_right _ (zbI hb e)))).2.1⟩
    refine wpAny_mono (hf cl C s2 H1 fp pins _ s6 τ2 H6 _ I6 q6) (fun ok s6' h6'=>?_) fun _ _ z=>z.elim
    obtain ⟨H6',I6',q6'⟩:=h6'
    cases ok with
    | false=>
      rw [if_neg Bool.false_ne_true] at q6' ⊢
      obtain ⟨m',hm',w7⟩:=q6'
      obtain ⟨g1,g2⟩:=gone I6'
      exact ⟨m',hm',i + 1,ys,its,k,τ2,H6',I6'.pins_of fun p hp=>I6'.pin p (List.mem_append_right _ (List.mem_append_left _ hp)),g1,g2,w7,rv⟩
    | true=>
    rw [if_pos rfl] at q6' ⊢
    refine wpAny_mono (helt cl C s2 H1 fp pins _ s6' τ2 H6' _ I6' q6') (fun y s7 h7=>?_) fun _ _ z=>z.elim
    obtain ⟨yv,H7,I7,r7,m',hm',w7⟩:=h7
    have p7:=I7.pin (D,lob its k) (List.mem_append_right _ (List.mem_append_left _ List.mem_cons_self))
    have hl:=rv.length
    refine call_meets F.slot_list_append ⟨_,p7.1,rfl⟩ F.entry_list_append (F.args_list_append_2 _ _) (PySem.list_append D its.toArray k y (by rw [List.size_toArray]; omega)) ⟨p7.1,?_⟩
    have q:=PySem.IsL.update p7.1 (·.push y)
    have keepB:∀ b o,b≠D->s7.heap.get? b=some o->(s7.heap.update D (Obj.mapSeq (·.push y))).get? b=some o:=fun b o hb e=>(Heap.get?_update_other s7.heap _ (Ne.symm hb)).trans e
    have I8:Inv (compCx X scope N' cl C s2 H1 fp pins) (pinsAt fp s5.heap) τ2 H7 s7:=I7.pins_of fun p hp=>I7.pin p (List.mem_append_right _ (List.mem_append_right _ hp))
    have I9:Inv (compCx X scope N' cl C s2 H1 fp pins) (pinsAt fp s5.heap) τ2 H7 { s7 with heap:=s7.heap.update D (Obj.mapSeq (·.push y)) }:=I8.turned (t':=s7.toks) (it:=D) keepB p7.2.1 hDC (.inr (by show s2.heap.objs.size<=D; rw [hDD]; exact Nat.le_refl _)) (fun a c e=>(cellD a c (h1 _ _ e)).1) fun p hp z=>by
     rcases List.mem_append.mp hp with z' | z'
     ·exact (neP p z').1 z
     ·exact DnF (by rw [<- z]; exact (zgC z').1)
    refine ⟨m',hm',i + 1,ys ++ [yv],its ++ [y],(if (its.toArray.push y).size == its.toArray.size then k else k + 1),τ2,H7,I9.pins_of (pins':=[(D,lob (its ++ [y]) ((if (its.toArray.push y).size == its.toArray.size then k else k + 1)))]) fun p hp=>?_,T.keep _ _ _ st5 fun b hb o e=>?_,fun b hb=>?_,w7,rv.append (.cons r7 .nil)⟩
    ·have e:p=(D,lob (its ++ [y]) ((if (its.toArray.push y).size == its.toArray.size then k else k + 1))):=by simpa using hp
     subst e
     refine ⟨by rw [q,List.push_toArray],p7.2.1,hDC,DnS D (Nat.le_refl _),fun v z=>by cases z⟩
    ·have pb:=I7.pin (b,o) (List.mem_append_right _ (List.mem_append_right _ (zbI hb e)))
     exact keepB b o (fun z=>DnF (by rw [<- z]; exact hb)) pb.1
    ·obtain ⟨o,e,d⟩:=T.obj _ _ st5 b hb
     exact (I7.pin (b,o) (List.mem_append_right _ (List.mem_append_right _ (zbI hb e)))).2.1
  ·exact I3.pins_of fun p hp=>by
    have e:p=(D,lob [] 0):=by simpa using hp
    subst e
    exact ⟨hacc,I2.hok.fresh (by rw [hDD]; exact Nat.le_refl _),hDC,DnS D (Nat.le_refl _),fun v z=>by cases z⟩
 exact codeAny_compStart_list (loop _ rfl) (T.self _ 0 _ _ _ (T.keep _ _ _ st2 fun b hb o e=>old b o e) (loop _ rfl))
theorem zj3 (S:CompScL X scope xs ix N') {gd:Cx->Prop} (hc:∀ cl C s2 H2 fp pins,gd (compCx X scope N' cl C s2 H2 fp pins)) (hi:PIG gd X tg iter wi) (hg:∀ cl C s2 H2 fp pins,PG (compCx X scope N' cl C s2 H2 fp pins) tg g) (hf:∀ cl C s2 H2 fp pins,PF (compCx X scope N' cl C s2 H2 fp pins) ifs tc) (helt:∀ cl C s2 H2 fp pins,PE (compCx X scope N' cl C s2 H2 fp pins) elt te)
  (hs:∀ x,foldedSetIterable iter X.env x=pure x):PE X (.ListComp elt [⟨tg,iter,ifs,0⟩] scope pos) (tCompL wi xs.length ix g tc te):=by
 intro pins s σ H Q I h
 obtain ⟨cl,hcl,h1,h2⟩:=zfg (scope:=scope) (env:=X.env) (fun y hy hk=>I.ok.has y.1 (S.free y hy hk))
 rw [eval_ListComp]
 refine wpAny_comprehension_free (use:=none) rfl hs hcl S.kind S.names (wpAny_mono (hi pins s σ H _ I h) (fun xv s₁ h₁=>wpAny_mono h₁ (fun it s₂ h₂=>?_) fun _ _ e=>e) fun _ _ e=>e)
 exact zhh S hc hg hf helt h₂ h1 h2 fun D C H' s1 m hn fC c1 c2 c3 c4 hI q=>⟨m,hn,fun h' hs'=>⟨.ref D,H',hI h' hs',rfl,q⟩⟩
theorem zlH {i:Nat} {y:Str} {py spos:Pos} (S:CompScL X scope xs ix N') {gd:Cx->Prop} (hc:∀ cl C s2 H2 fp pins,gd (compCx X scope N' cl C s2 H2 fp pins)) (hi:PIG gd X tg iter wi) (hg:∀ cl C s2 H2 fp pins,PG (compCx X scope N' cl C s2 H2 fp pins) tg g) (hf:∀ cl C s2 H2 fp pins,PF (compCx X scope N' cl C s2 H2 fp pins) ifs tc) (helt:∀ cl C s2 H2 fp pins,PE (compCx X scope N' cl C s2 H2 fp pins) elt te)
  (hs:∀ x,foldedSetIterable iter X.env x=pure x) (hN0:X.N.Nodup) (hi0:X.N[i]?=some y) (hy:X.env.scope.names.lookup y=some .local) (hsw:swapsWith (.ListComp elt [⟨tg,iter,ifs,0⟩] scope pos) (some (.Name y py)) spos.line X.env=pure true):
  PS X (.Assign [.Name y py] (.ListComp elt [⟨tg,iter,ifs,0⟩] scope pos) spos) (tAsg (tCompL wi xs.length ix g tc te) (gName i)):=by
 intro pins s σ H D I h
 obtain ⟨cl,hcl,h1,h2⟩:=zfg (scope:=scope) (env:=X.env) (fun y hy hk=>I.ok.has y.1 (S.free y hy hk))
 rw [exec_Assign_Name_used _ _ _ _ hsw]
 refine wpAny_bind (wpAny_standAt (wpAny_bind ?_))
 show wpAny _ X.A (do let _ <- comprehension (.ListComp elt [⟨tg,iter,ifs,0⟩] scope pos) scope X.env _ (newList []) false (eval iter X.env) (some (assign (.Name y py) X.env))) _ _ s
 refine wpAny_bind (wpAny_mono (wpAny_comprehension_free (use:=some (assign (.Name y py) X.env)) (Q:=fun _ s'=>SP X pins D .next s') rfl hs hcl S.kind S.names
  (wpAny_mono (hi pins s σ H _ I h) (fun xv s₁ h₁=>wpAny_mono h₁ (fun it s₂ h₂=>?_) fun _ _ e=>e) fun _ _ e=>e)) (fun _ s' hq=>wpAny_pure (wpAny_pure hq)) fun _ _ e=>e)
 refine zhh S hc hg hf helt h₂ h1 h2 fun A C H' s1 m hn fC c1 c2 c3 c4 hI q=>?_
 have I1:Inv X pins σ H' s1:=hI s1.heap (.refl ..)
 refine wpAny_assign_Name (zgz I1 hN0 hi0 (.inl hy) (show RelV (.ref A) (.ref A) from rfl) (fun s3 I3 ch=>?_) (.inr hy))
 obtain ⟨a,hs3,ha⟩:=ch
 have hCa:C≠a:=by
  rcases ha with z | z
  ·rw [z]; exact c2
  ·intro e; exact c3 y a z e.symm
 refine ⟨m,hn.sameBut hs3 hCa,fun h' hs'=>?_⟩
 exact ⟨_,H',I3.turned (t':=s3.toks) (it:=C) (fun b o hb e=>(hs'.2 b hb).trans e) fC c2 (.inr c1) c3 c4,q⟩
end
noncomputable def compChkL (sc scope:Scope) (N:List Str) (xs:List Str) (ix:List Nat) (N':List Str):Bool:=
 (scope.kind == .function) && scope.names.all (fun y=> !(y.2 == .cell)) && scope.names.all (fun y=> !(y.2 == .local) || (scope.names.lookup y.1 == some .local))
 && scope.names.all (fun y=> !(y.2 == .free) || (sc.names.lookup y.1 == some .cell || sc.names.lookup y.1 == some .free))
 && (relN sc scope).all (fun y=> !(y.2 == .cell || y.2 == .free) || scope.names.any (fun z=>z.1 == y.1 && z.2 == .free))
 && (N' == xs ++ ix.map fun j=>N.getD j "") && ix.all (fun j=>decide (j < N.length) && scope.names.any (fun z=>z.1 == N.getD j "" && z.2 == .free) && ((relN sc scope).lookup (N.getD j "") == some .cell || (relN sc scope).lookup (N.getD j "") == some .free))
theorem zfp {sc scope:Scope} {N:List Str} {xs:List Str} {ix:List Nat} {N':List Str} (h:compChkL sc scope N xs ix N'=true) (e1:X.env.scope=sc) (e2:X.N=N):CompScL X scope xs ix N':=by
 subst e1 e2
 unfold compChkL at h
 simp only [Bool.and_eq_true,List.all_eq_true,Bool.or_eq_true,Bool.not_eq_true',List.any_eq_true,decide_eq_true_eq,beq_iff_eq,beq_eq_false_iff_ne] at h
 obtain ⟨⟨⟨⟨⟨⟨a1,a2⟩,a3⟩,a5⟩,a6⟩,a7⟩,a8⟩:=h
 refine ⟨a1,a2,fun y hy hk=>(a3 y hy).elim (fun z=>absurd hk z) id,fun y hy hk=>(a5 y hy).elim (fun z=>absurd hk z) id,fun n _ hn=>?_,a7,fun j hj=>?_⟩
 ·have:∃ k,(n,k)∈relN X.env.scope scope /\ (k=NameKind.cell \/ k=NameKind.free):=by
   rcases hn with z | z
   ·exact ⟨_,zdS z,.inl rfl⟩
   ·exact ⟨_,zdS z,.inr rfl⟩
  obtain ⟨k,hk,hk2⟩:=this
  rcases a6 (n,k) hk with z | ⟨z,hz,e1,e2⟩
  ·exfalso
   simp at z
   rcases hk2 with q | q
   ·exact z.1 q
   ·exact z.2 q
  ·obtain ⟨z1,z2⟩:=z
   cases e1; cases e2; exact hz
 ·obtain ⟨⟨b1,⟨z,hz,e1,e2⟩⟩,b3⟩:=a8 j hj
  refine ⟨b1,?_,b3⟩
  obtain ⟨z1,z2⟩:=z
  cases e2
  have e1':z1=X.N.getD j "":=e1
  rw [<- e1']; exact hz
end
end L2
namespace L2
open PySem PySem.Spec PyProof.Rows LS
noncomputable def fltD (f:D->Option (Option D)):List D->Option (List D)
 | []=>some []
 | d :: ds=>(f d).bind fun o=>(fltD f ds).bind fun xs=>some (match o with | some x=>x :: xs | none=>xs)
noncomputable def gCompL (gi:DS->Option (List D)) (k:Nat) (ix:List Nat) (gt:D->DS->Option DS) (gc:DS->Option Bool) (ge:DS->Option D):DS->Option (List D):=fun δ=>(gi δ).bind fun ds=>if ds.length<=100000 then
 fltD (fun d=>(gt d (List.replicate k none ++ captD ix δ)).bind fun δ1=>(gc δ1).bind fun b=>if b=true then (ge δ1).map some else some none) ds else none
noncomputable def Own (k:Nat) (gt:D->DS->Option DS):Prop:=∀ d c δ1,gt d (List.replicate k none ++ c)=some δ1->∃ own:DS,own.length=k /\ δ1=own ++ c
theorem own1:Own 1 (gName' 0):=fun d c δ1 h=>by cases h; exact ⟨[some d],rfl,rfl⟩
set_option tactic.hygienic true in
theorem own2:Own 2 (gTupT 2 (gConsT (gName' 0) (gConsT (gName' 1) gNilT))):=fun d c δ1 h=>by
 unfold gTupT at h
 split at h
 ·split at h
  ·rename_i ds hl
   match ds,hl with
   | [a,b],_=>cases h; exact ⟨[some a,some b],rfl,rfl⟩
  ·cases h
 ·cases h
section
variable {K:PySem.W.Frag} {O:List Nat} {U A0:List Addr} {σ:St} {δ:DS} {H H1:Hp}
theorem Rel.weak {own c:DS} (R:Rel K [] U A0 σ (own ++ c) H):Rel K [] U A0 σ (List.replicate own.length none ++ c) H where
 len:=by rw [R.len]; simp
 fz:=fun i e hi q=>by
  by_cases h:i < own.length
  ·rw [List.getElem?_append_left (by simpa using h),List.getElem?_replicate,if_pos h] at q
   cases q
  ·refine R.fz i e hi ?_
   rw [List.getElem?_append_right (by simpa using h)] at q
   rw [List.getElem?_append_right (by omega)]
   simpa using q
 ow:=fun i e hi=>by simp at hi
 inj:=fun i j d e l hi=>by simp at hi
 al:=R.al
theorem Rel.captL (R:Rel K O U A0 σ δ H) {ix:List Nat} (k:Nat) (hix:∀ j∈ix,j∉O):Rel K [] U A0 (List.replicate k none ++ L2.capt ix σ) (List.replicate k none ++ captD ix δ) H where
 len:=by simp [L2.capt,captD]
 fz:=fun i e _ q=>by
  by_cases h:i < k
  ·rw [List.getElem?_append_left (by simpa using h),List.getElem?_replicate,if_pos h] at q
   cases q
  ·rw [List.getElem?_append_right (by simpa using h)] at q ⊢
   simp only [List.length_replicate] at q ⊢
   unfold captD at q
   unfold L2.capt
   rw [List.getElem?_map] at q ⊢
   cases ei:ix[i - k]? with
   | none=>rw [ei] at q; cases q
   | some j=>
     rw [ei] at q
     simp only [Option.map_some,Option.some.injEq] at q
     obtain ⟨u,hu,hd⟩:=R.fz j e (hix j (List.mem_of_getElem? ei)) (zr q)
     exact ⟨u,by simp [hu],hd⟩
 ow:=fun i e hi=>by simp at hi
 inj:=fun i j d e l hi=>by simp at hi
 al:=R.al
structure CB (K:PySem.W.Frag) (U A0:List Addr) (H1:Hp) (ds xs:List D) (F:D->Option (Option D)) (base:DS) (i:Nat) (ys:List V) (τ:St) (H2:Hp) (zs rest:List D):Prop where
 le:i<=ds.length
 s:Same H1 H2
 R:Rel K [] U A0 τ base H2
 yl:ys.length<=i
 hz:HDs K (wo H2 (U ++ A0)) ys zs
 he:fltD F (ds.drop i)=some rest
 hx:zs ++ rest=xs
noncomputable def CBW (K:PySem.W.Frag) (U A0:List Addr) (H1:Hp) (ds xs:List D) (F:D->Option (Option D)) (base:DS) (i m:Nat) (ys:List V) (τ:St) (H2:Hp):Prop:=m=ds.length - i /\ ∃ zs rest,CB K U A0 H1 ds xs F base i ys τ H2 zs rest
theorem zlo {J:It} {ix:List Nat} {k:Nat} {gt:D->DS->Option DS} {gc:DS->Option Bool} {ge:DS->Option D} {ds xs:List D} {Q:VK} (own:Own k gt) (R:Rel K O U A0 σ δ H) (s:Same H H1) (hix:∀ j∈ix,j∉O) (hw:WalksS K (U ++ A0) H1 J ds)
  (hl:ds.length<=100000) (e:fltD (fun d=>(gt d (List.replicate k none ++ captD ix δ)).bind fun δ1=>(gc δ1).bind fun b=>if b=true then (ge δ1).map some else some none) ds=some xs)
  (q:∀ r ys H',Same H H'->H r=none->H' r=some (.lst ys)->HDs K (wo H' (r :: (U ++ A0))) ys xs->Q (.ref r) H'):cBlockL J k ix (tG K [] gt) (tT K [] gc) (tE K [] ge) σ H1 Q:=by
 have big:(100000:Nat) < sizeLine:=by decide
 obtain ⟨F,hF⟩:∃ F:D->Option (Option D),F=fun d=>(gt d (List.replicate k none ++ captD ix δ)).bind fun δ1=>(gc δ1).bind fun b=>if b=true then (ge δ1).map some else some none:=⟨_,rfl⟩
 rw [<- hF] at e
 refine ⟨CBW K U A0 H1 ds xs F (List.replicate k none ++ captD ix δ),⟨ds.length,rfl,[],xs,Nat.zero_le _,Same.refl _,(R.same s).captL k hix,Nat.le_refl _,.nil,e,rfl⟩,?_⟩
 rintro i m ys τ H2 ⟨rfl,zs,rest,w⟩
 have hle:=w.le
 have hyl:=w.yl
 have he:=w.he
 refine ⟨by omega,?_⟩
 obtain ⟨hgo,hstop⟩:=hw i H2 w.s
 by_cases hlt:i < ds.length
 ·obtain ⟨go,hyd⟩:=hgo _ (List.getElem?_eq_getElem hlt)
  rw [List.drop_eq_getElem_cons hlt,fltD] at he
  generalize ds[i]=d at hyd he
  obtain ⟨o,e1,e2⟩:=bind1 he
  obtain ⟨rs,e3,e4⟩:=bind1 e2
  rw [hF] at e1
  obtain ⟨δ1,f1,f2⟩:=bind1 e1
  obtain ⟨b,f3,f4⟩:=bind1 f2
  obtain ⟨own1,ol,oe⟩:=own d _ δ1 f1
  refine .inr ⟨go,by omega,fun v H3 y=>?_⟩
  obtain ⟨s3,hv⟩:=hyd v H3 y
  refine ⟨U,A0,_,d,δ1,w.R.same s3,hv,f1,fun τ2 R3=>⟨U,A0,δ1,b,R3,f3,fun H4 s4=>?_⟩⟩
  have wk:∀ {H':Hp},Same H3 H'->Rel K [] U A0 τ2 (List.replicate k none ++ captD ix δ) H':=fun {H'} s'=>by
   rw [<- ol]
   rw [oe] at R3
   exact (R3.same s').weak
  have lt:ds.length - (i + 1) < ds.length - i:=Nat.sub_lt_sub_left hlt (Nat.lt_succ_self i)
  cases b with
  | true=>
    rw [if_pos rfl] at f4
    dsimp only
    rw [if_pos rfl]
    cases eg:ge δ1 with
    | none=>rw [eg] at f4; cases f4
    | some x=>
      rw [eg] at f4; cases f4
      cases e4
      exact ⟨U,A0,δ1,x,R3.same s4,eg,fun u H5 s5 hu=>⟨_,lt,rfl,zs ++ [x],rs,hlt,((w.s.trans s3).trans s4).trans s5,wk (s4.trans s5),by rw [List.length_append]; exact Nat.succ_le_succ hyl,(w.hz.same (zav ((s3.trans s4).trans s5))).app (.cons hu .nil),e3,by rw [<- w.hx,List.append_assoc]; rfl⟩⟩
  | false=>
    rw [if_neg Bool.false_ne_true] at f4
    dsimp only
    rw [if_neg Bool.false_ne_true]
    cases f4
    cases e4
    exact ⟨_,lt,rfl,zs,rs,hlt,(w.s.trans s3).trans s4,wk s4,Nat.le_succ_of_le hyl,w.hz.same (zav (s3.trans s4)),e3,w.hx⟩
 ·have hi:i=ds.length:=Nat.le_antisymm hle (Nat.le_of_not_lt hlt)
  subst hi
  rw [List.drop_length,fltD] at he
  cases he
  have hx:=w.hx
  rw [List.append_nil] at hx
  subst hx
  exact .inl ⟨hstop rfl,fun p hp=>zjC (s.trans w.s) q p ys hp w.hz⟩
end
section
variable {X:Cx} {O:List Nat} {fr:Fr} {scope:Scope} {elt iter tg:Expr} {ifs:List Expr} {pos:Pos} {gi:DS->Option (List D)} {ge:DS->Option D} {gt:D->DS->Option DS} {gc:DS->Option Bool} {k:Nat}
theorem PF.mono {t t':TT} (h:PF X ifs t) (m:∀ σ H Q,t' σ H Q->t σ H Q):PF X ifs t':=fun pins s σ H Q I q=>h pins s σ H Q I (m σ H Q q)
theorem zcc:PF X [] (tT X.K O fun _=>some true):=zpO.mono fun σ H Q hh=>hh.e fun U A0 δ b R e q=>by cases e; exact q H (Same.refl H)
set_option tactic.hygienic true in
theorem ziQ {K:PySem.W.Frag} {ix:List Nat} (own:Own k gt) (hix:∀ j∈ix,j∉O) {σ:St} {H:Hp} {Q:VK}:tN K O (gCompL gi k ix gt gc ge) σ H Q->tCompL (tIc K O gi) k ix (tG K [] gt) (tT K [] gc) (tE K [] ge) σ H Q:=fun ⟨U,A0,δ,xs,R,ed,q⟩=>by
 obtain ⟨ds,e1,e2⟩:=bind1 ed
 split at e2
 ·rename_i hl
  exact ⟨U,A0,δ,ds,R,e1,fun J H1 s hw=>zlo own R s hix hw hl e2 q⟩
 ·cases e2
theorem zbb (sc:Scope) (N:List Str) (ix:List Nat) (N' xs:List Str) (own:Own k gt) (hi:PI X tg iter (tIc X.K O gi)) (hg:∀ cl C s2 H2 fp pins,PG (compCx X scope N' cl C s2 H2 fp pins) tg (tG X.K [] gt)) (hf:∀ cl C s2 H2 fp pins,PF (compCx X scope N' cl C s2 H2 fp pins) ifs (tT X.K [] gc))
  (helt:∀ cl C s2 H2 fp pins,PE (compCx X scope N' cl C s2 H2 fp pins) elt (tE X.K [] ge)) (hix:∀ j∈ix,j∉O:=by decide) (hk:compChkL sc scope N xs ix N'=true:=by decide +kernel) (hl:xs.length=k:=by rfl)
  (e1:X.env.scope=sc:=by rfl) (e2:X.N=N:=by rfl) (hc:X.calm=true:=by rfl) (hs:∀ x,foldedSetIterable iter X.env x=pure x:=by intro _; rfl):PE X (.ListComp elt [⟨tg,iter,ifs,0⟩] scope pos) (tN X.K O (gCompL gi k ix gt gc ge)):=by
 subst hl
 exact (zj3 (gd:=calmG) (zfp hk e1 e2) (fun _ _ _ _ _ _=>hc) hi hg hf helt hs).mono fun _ _ _=>ziQ own hix
theorem zil {i:Nat} {y:Str} {py spos:Pos} (sc:Scope) (N:List Str) (ix:List Nat) (N' xs:List Str) (hN0:X.N.Nodup) (hi0:X.N[i]?=some y) (hy:X.env.scope.names.lookup y=some .local) (own:Own k gt) (hi:PI X tg iter (tIc X.K O gi))
  (hg:∀ cl C s2 H2 fp pins,PG (compCx X scope N' cl C s2 H2 fp pins) tg (tG X.K [] gt)) (hf:∀ cl C s2 H2 fp pins,PF (compCx X scope N' cl C s2 H2 fp pins) ifs (tT X.K [] gc)) (helt:∀ cl C s2 H2 fp pins,PE (compCx X scope N' cl C s2 H2 fp pins) elt (tE X.K [] ge))
  (hix:∀ j∈ix,j∉O:=by decide) (hk:compChkL sc scope N xs ix N'=true:=by decide +kernel) (hl:xs.length=k:=by rfl)
  (e1:X.env.scope=sc:=by rfl) (e2:X.N=N:=by rfl) (hc:X.calm=true:=by rfl) (hs:∀ x,foldedSetIterable iter X.env x=pure x:=by intro _; rfl) (hsw:swapsWith (.ListComp elt [⟨tg,iter,ifs,0⟩] scope pos) (some (.Name y py)) spos.line X.env=pure true:=by rfl):
  PS X (.Assign [.Name y py] (.ListComp elt [⟨tg,iter,ifs,0⟩] scope pos) spos) (tAsg (tN X.K O (gCompL gi k ix gt gc ge)) (gName i)):=by
 subst hl
 exact (zlH (gd:=calmG) (zfp hk e1 e2) (fun _ _ _ _ _ _=>hc) hi hg hf helt hs hN0 hi0 hy hsw).mono fun _ _ _ h=>ziQ own hix h
end
section
variable {X:Cx}
noncomputable def rCatT0 (K:PySem.W.Frag):R2:=fun x y H Q=>∃ a b ys,x=.ref a /\ y=.ref b /\ SqT K H a [] /\ SqT K H b ys /\ Q (.ref b) H
theorem zm4:OpR X (binaryOp .Add) (rCatT0 X.K):=by
 intro pins s σ H x y v u Q I rx ry h
 obtain ⟨a,b,ys,rfl,rfl,ha,hb,q⟩:=h
 cases rx
 cases ry
 obtain ⟨its,r1,p1,_⟩:=I.tuple ha
 obtain ⟨its2,r2,p2,_⟩:=I.tuple hb
 have e:=r1.nil_iff.mpr rfl
 subst e
 obtain ⟨⟨c1,d1,dt1,sl1⟩,ho,hc,n,hd⟩:=id p1
 obtain ⟨⟨c2,d2,dt2,sl2⟩,ho2,hc2,n2,hd2⟩:=id p2
 simp only at hc hd hc2 hd2
 subst hc hd hc2 hd2
 exact concat_meets ⟨_,ho,rfl⟩ ⟨_,ho2,rfl⟩ noFill_tuple_add seq_tuple_add PySem.F.slot_tuple_add PySem.F.entry_tuple_add (PySem.F.args_tuple_add_2 _ _) (tuple_addW0 a b #[] its2.toArray n n2 d1 d2 sl1 sl2 (by simp)) ⟨ho,ho2,⟨.ref b,H,I,rfl,q⟩⟩
end
noncomputable def dAddV (a b:D):Option D:=match a,b with
 | .tuple [],.tuple l=>some (.tuple l)
 | a,b=>dAdd a b
theorem zC {X:Cx}:OpR X (binaryOp .Add) (fun x y H Q=>rAddU X.K x y H Q \/ rCatT0 X.K x y H Q):=zpc.or zm4
theorem zw {K:PySem.W.Frag}:Imp2 K (fun x y H Q=>rAddU K x y H Q \/ rCatT0 K x y H Q) dAddV:=by
 intro A H x y dx dy d Q al hx hy e q
 unfold dAddV at e
 split at e
 ·cases e
  have hf:=hy.fz
  obtain ⟨a,xs,rfl,h1,h2⟩:=hx.tuple
  obtain ⟨b,zs,rfl,h3,h4⟩:=hy.tuple
  cases h2
  exact .inr ⟨a,b,zs,rfl,rfl,h1,h3,q _ H (Same.refl H) hf⟩
 ·exact .inl (zo8 A H x y _ _ d Q al hx hy e q)
noncomputable def IteT (K:PySem.W.Frag) (a:Addr):It:=
 ⟨fun i H=>∃ xs x,SqT K H a xs /\ xs[i]?=some x,fun i H x H'=>∃ p v,H p=none /\ x=.ref p /\ H'=upd H p (.tup [.int i,v]) /\ ∀ xs,SqT K H a xs->xs[i]?=some v,fun i H=>∃ xs,SqT K H a xs /\ xs.length=i⟩
theorem zjz {P:Program} {w:World} {K:PySem.W.Frag} {es:List Expr} {kk} {tpos:Pos} (a e it:Addr) (hne:e≠it):Turn P w K (.Tuple es kk tpos) (IteT K a) [e,it] e (fun i h=>(∃ old,IsEnum h e it i old) /\ h.IsTupleIter it a i) where
 mem:=by simp
 obj:=fun i h st b hb=>by
  obtain ⟨⟨old,he⟩,o,ho,c,d⟩:=st
  rcases List.mem_cons.mp hb with z | z
  ·subst z; exact ⟨_,he,fun v z=>by cases z⟩
  ·have z:b=it:=by simpa using z
   subst z; exact ⟨o,ho,fun v z=>by rw [d] at z; cases z⟩
 keep:=fun i h h' st k=>by
  obtain ⟨⟨old,he⟩,st2⟩:=st
  exact ⟨⟨old,k e (by simp) _ he⟩,st2.at fun o eo=>k it (by simp) o eo⟩
 item:=by
  intro X hP hw hK hc i pins s σ H E I hf st hg
  subst hP hw hK
  obtain ⟨xs,x,hq,hx⟩:=hg
  obtain ⟨its,rv,p,hz⟩:=I.tuple hq
  obtain ⟨u,hu,ru⟩:=rv.get hx
  obtain ⟨⟨old,he⟩,st2⟩:=st
  have hp:s.heap.IsTuple a its.toArray:=p
  have hea:e≠a:=fun z=>by
   obtain ⟨o,ho,hcl,_⟩:=hp
   rw [<- z] at ho
   have:=ho.symm.trans he
   cases this
   exact absurd (Value.type.inj hcl) (by decide)
  have hia:a≠it:=fun z=>by
   obtain ⟨o,ho,hcl,_⟩:=hp
   obtain ⟨o2,ho2,hcl2,_⟩:=st2
   rw [z] at ho
   have:=ho.symm.trans ho2
   cases this
   rw [hcl] at hcl2
   exact absurd (Value.type.inj hcl2) (by decide)
  have hil:i < its.toArray.size:=by
   have:=(List.getElem?_eq_some_iff.mp hu).1
   simpa using this
  refine wpAny_pyNext_enum_itemD (zcs (A:=X.A.in1) (I.ok.hd hc) it a hia its.toArray) he ⟨st2,hp⟩ hil hne (by simp [hne,hea]) fun y h1 tk hy heo hst1 ht1 hz1 hk1=>?_
  have hyu:y=u:=by
   have h3:its.toArray[i]?=some u:=by simpa using hu
   have h4:its.toArray[i]?=some y:=hy
   rw [h3] at h4; cases h4; rfl
  subst hyu
  refine ⟨_,rfl,wpAny_letOwnedTupleGo_enum heo fun h2 he2 hs2=>?_⟩
  replace hs2:Heap.SameBut e h1 h2:=hs2
  have heH:e < s.heap.objs.size:=Heap.lt_size he
  have I1:Inv X pins σ H { s with heap:=h2,toks:=tk + 1 }:=I.turnedL (t':=tk + 1) (ch:=[e,it]) (fun b o hb eo=>by
   simp only [List.mem_cons,List.not_mem_nil,or_false,not_or] at hb
   exact (hs2.2 b hb.1).trans (hk1 b o hb.1 hb.2 eo)) hf
  have ht2:IsTup h2 s.heap.objs.size [Value.int i tk,y].toArray:=⟨_,(hs2.2 _ (Nat.ne_of_gt heH)).trans ht1,rfl,_,rfl⟩
  have hfr:H s.heap.objs.size=none:=I.hok.fresh (Nat.le_refl _)
  have fo:=I.fpOk (H':=H) (Nat.le_refl _) hfr
  have I2:Inv X pins σ (upd H s.heap.objs.size (.tup [.int i,x])) { s with heap:=h2,toks:=tk + 1 }:=I1.trackT hfr (Nat.le_trans I.sz (Nat.le_refl _)) fo.2.1 fo.2.2.2.2.1 fo.2.2.2.2.2 ht2 (.cons ⟨_,rfl⟩ (.cons ru .nil)) (by show 2<=sizeLine; decide)
  refine ⟨.ref s.heap.objs.size,_,I2,rfl,⟨_,x,hfr,rfl,rfl,fun ys hy=>by rw [I.tuple_inj hy hq]; exact hx⟩,⟨⟨y,he2⟩,hst1.1.extBut hs2.extBut (Ne.symm hne)⟩,fun b hb=>?_⟩
  have hlt:b < s.heap.objs.size:=by
   rcases List.mem_cons.mp hb with z | z
   ·subst z; exact heH
   ·have z:b=it:=by simpa using z
    subst z
    obtain ⟨o,ho,_⟩:=st2
    exact Heap.lt_size ho
  rw [zH (Nat.ne_of_lt hlt)]
  exact (hf b hb).1
 done:=by
  intro X hP hw hK hc i pins s σ H E I hf st hg
  subst hP hw hK
  obtain ⟨xs,hq,hx⟩:=hg
  obtain ⟨its,rv,p,hz⟩:=I.tuple hq
  obtain ⟨⟨old,he⟩,st2⟩:=st
  have hp:s.heap.IsTuple a its.toArray:=p
  have hia:a≠it:=fun z=>by
   obtain ⟨o,ho,hcl,_⟩:=hp
   obtain ⟨o2,ho2,hcl2,_⟩:=st2
   rw [z] at ho
   have:=ho.symm.trans ho2
   cases this
   rw [hcl] at hcl2
   exact absurd (Value.type.inj hcl2) (by decide)
  have hl:=rv.length
  have hsz:its.toArray.size=i:=by rw [List.size_toArray,<- hl]; exact hx
  refine wpAny_pyNext_enum_endD (zcs (A:=X.A.in1) (I.ok.hd hc) it a hia its.toArray) he ⟨by rw [hsz]; exact st2,hp⟩ fun h1 eb=>⟨rfl,?_⟩
  exact I.turnedL (t':=s.toks) (ch:=[e,it]) (fun b o hb eo=>eb b o (fun z=>hb (by simp [z])) eo) hf
 self:=fun _ _ _ _ _ st h=>by
  obtain ⟨⟨old,he⟩,_⟩:=st
  exact wpAny_pyIter_enum he h
section
variable {X:Cx} {O:List Nat} {a:Expr} {ge:DS->Option D} {p pos:Pos} {es:List Expr} {kk} {tpos:Pos}
noncomputable def iEnumT (K:PySem.W.Frag) (ta:TA):TI:=fun σ H R=>ta σ H fun vs H1=>∃ a xs,vs=[.ref a] /\ SqT K H1 a xs /\ R (IteT K a) H1
theorem zmA {ta:TA} (hg:Gl X "enumerate") (hm:X.mg "enumerate"=none) (ha:PA X [a] ta) (hs:starEach [a] X.env=[(false,eval a X.env)]:=by rfl):PI X (.Tuple es kk tpos) (.Call (.Name "enumerate" p) [a] [] pos) (iEnumT X.K ta):=by
 intro pins s σ H R I h
 refine Call_ (zdk I hg hm zcE (PyProof.Rows.callWith_type1 (thn (ha pos pins s σ H _ I h) fun us s1 ⟨vs,H1,I1,r1,q1⟩=>?_) hs rfl))
 obtain ⟨b,xs,e,hq,q⟩:=q1
 subst e
 obtain ⟨u,rfl,ru⟩:=vals1 r1
 cases ru
 obtain ⟨its,rv,pl,hz⟩:=I1.tuple hq
 refine zi2 (show s1.heap.IsTuple b its.toArray from pl) fun h' he hit hsz hk=>?_
 refine wpAny_pyIter_enum he ?_
 refine ⟨s1.heap.objs.size + 1,[s1.heap.objs.size + 1,s1.heap.objs.size],_,_,H1,rfl,I1.kept (t':=s1.toks) hk,zjz b _ s1.heap.objs.size (Nat.succ_ne_self _),⟨⟨_,he⟩,hit⟩,fun b hb=>?_,q⟩
 have hle:s1.heap.objs.size<=b:=by
  simp only [List.mem_cons,List.not_mem_nil,or_false] at hb
  rcases hb with z | z
  ·rw [z]; exact Nat.le_succ _
  ·rw [z]; exact Nat.le_refl _
 exact I1.fpOk hle (I1.hok.fresh hle)
noncomputable def gEnumT (g:DS->Option D):DS->Option (List D):=fun δ=>(g δ).bind fun | .tuple l=>some (enumD l) | _=>none
theorem zmC (hm:X.mg "enumerate"=none) (ha:PE X a (tE X.K O ge)) (hg:Gl X "enumerate":=by rfl) (hs:starEach [a] X.env=[(false,eval a X.env)]:=by rfl) (hs0:starEach ([]:List Expr) X.env=[]:=by rfl):PI X (.Tuple es kk tpos) (.Call (.Name "enumerate" p) [a] [] pos) (tI X.K O (gEnumT ge)):=
 (zmA hg hm (zZ ha za2 (by rw [hs,hs0])) hs).mono fun σ H Q hh=>hh.e fun U A0 δ ds R ed q=>by
  obtain ⟨x,e1,e2⟩:=bind1 ed
  cases x with
  | tuple l=>
    cases e2
    refine ⟨U,A0,δ,_,R,e1,fun v H' s h=>?_⟩
    cases h with
    | tup hq h=>
      refine ⟨_,_,rfl,.inl (zan.tupT hq),q _ H' s ?_⟩
      intro A' i H2 s2 al
      have h2:=h.same s2
      have hL:SqT X.K H2 _ _:=.inl (zan.tupT (s2.tupT hq))
      refine ⟨fun d hd=>?_,fun hi=>⟨_,hL,by rw [hi,zeO,h2.len]⟩⟩
      obtain ⟨y,hy,rfl⟩:=zgw hd
      obtain ⟨v,hv,hvd⟩:=h2.get hy
      refine ⟨⟨_,v,hL,hv⟩,fun z H3 hz=>?_⟩
      obtain ⟨p,v',hp,rfl,rfl,hv'⟩:=hz
      have:=hv' _ hL
      rw [hv] at this
      cases this
      exact ⟨z9 hp _,HD.newT al hp (.cons (.int _) (.cons hvd .nil))⟩
  | _=>cases e2
end
end L2
namespace L2
open PySem PySem.Spec PyProof.Rows
noncomputable def keyOf1:D->Option Key
 | .int i=>some (.inl i)
 | .str x=>some (.inr x)
 | _=>none
noncomputable def keysOf:List D->Option (List Key)
 | []=>some []
 | d :: ds=>(keyOf1 d).bind fun k=>(keysOf ds).bind fun ks=>some (k :: ks)
noncomputable def keyOf:D->Option (List Key)
 | .tuple ds=>keysOf ds
 | _=>none
theorem zcm:∀ k:List Key,keysOf (k.map keyD)=some k
 | []=>rfl
 | .inl i :: k=>by rw [List.map_cons,keysOf,zcm k]; rfl
 | .inr i :: k=>by rw [List.map_cons,keysOf,zcm k]; rfl
theorem zg7 {K:PySem.W.Frag} {H:Hp}:∀ {xs:List V} {ds:List D} {k:List Key},HDs K H xs ds->keysOf ds=some k->xs=k.map kV
 | _,_,_,.nil,e=>by cases e; rfl
 | _,_,_,.cons h t,e=>by
   rw [keysOf] at e
   obtain ⟨a,e1,e2⟩:=bind1 e
   obtain ⟨b,e3,e4⟩:=bind1 e2
   cases e4
   rw [zg7 t e3,List.map_cons]
   cases h with
   | int i=>cases e1; rfl
   | str x=>cases e1; rfl
   | _=>cases e1
noncomputable def dLook (kds:List (D×D)) (k:List Key):Option D:=(kds.find? fun p=>decide (keyOf p.1=some k)).map (·.2)
noncomputable def dPutD (kds:List (D×D)) (k:List Key) (d:D):List (D×D):=
 if (kds.any fun p=>decide (keyOf p.1=some k))=true then kds.map (fun p=>if keyOf p.1=some k then (p.1,d) else p) else kds ++ [(.tuple (k.map keyD),d)]
theorem zbe {p:D×D} {r:List (D×D)} {k:List Key} (e:keyOf p.1=some k):dLook (p :: r) k=some p.2:=by simp [dLook,List.find?_cons,e]
theorem zbd {p:D×D} {r:List (D×D)} {k:List Key} (e:¬ keyOf p.1=some k):dLook (p :: r) k=dLook r k:=by simp [dLook,List.find?_cons,e]
theorem zds (k:List Key):∀ kds:List (D×D),(kds.any fun p=>decide (keyOf p.1=some k))=(dLook kds k).isSome
 | []=>rfl
 | p :: r=>by
   rw [List.any_cons]
   by_cases e:keyOf p.1=some k
   ·simp only [zbe e,decide_eq_true e,Bool.true_or,Option.isSome_some]
   ·rw [zbd e,decide_eq_false e,Bool.false_or]; exact zds k r
theorem zgD (k j:List Key) (y:D):∀ kds:List (D×D),dLook (kds.map fun p=>if keyOf p.1=some k then (p.1,y) else p) j=(dLook kds j).map fun x=>if j=k then y else x
 | []=>rfl
 | p :: r=>by
   have ih:=zgD k j y r
   rw [List.map_cons]
   by_cases h:keyOf p.1=some k
   ·rw [if_pos h]
    by_cases e:keyOf p.1=some j
    ·rw [zbe (p:=(p.1,y)) e,zbe e,Option.map_some,if_pos (Option.some.inj (e.symm.trans h))]
    ·rw [zbd (p:=(p.1,y)) e,zbd e,ih]
   ·rw [if_neg h]
    by_cases e:keyOf p.1=some j
    ·rw [zbe (p:=p) e,zbe e,Option.map_some,if_neg (fun z=>h (by rw [e,z]))]
    ·rw [zbd (p:=p) e,zbd e,ih]
theorem zg8 (j:List Key):∀ a b:List (D×D),dLook (a ++ b) j=(dLook a j).or (dLook b j)
 | [],b=>by rw [List.nil_append]; rfl
 | p :: r,b=>by
   rw [List.cons_append]
   by_cases e:keyOf p.1=some j
   ·rw [zbe e,zbe e]; rfl
   ·rw [zbd e,zbd e]; exact zg8 j r b
theorem zk9 (kds:List (D×D)) (k j:List Key) (d:D):dLook (dPutD kds k d) j=if j=k then some d else dLook kds j:=by
 unfold dPutD
 by_cases a:(kds.any fun p=>decide (keyOf p.1=some k))=true
 ·rw [if_pos a,zgD]
  rw [zds] at a
  by_cases e:j=k
  ·obtain ⟨x,hx⟩:=Option.isSome_iff_exists.mp a
   rw [if_pos e,e,hx,Option.map_some,if_pos rfl]
  ·rw [if_neg e]
   cases dLook kds j with
   | none=>rfl
   | some x=>rw [Option.map_some,if_neg e]
 ·rw [if_neg a,zg8]
  rw [zds] at a
  have hk:keyOf (.tuple (k.map keyD))=some k:=zcm k
  by_cases e:j=k
  ·subst e
   have:dLook kds j=none:=by
    cases q:dLook kds j with
    | none=>rfl
    | some x=>rw [q] at a; exact (a rfl).elim
   rw [if_pos rfl,this,zbe hk]; rfl
  ·rw [if_neg e,zbd (by rw [hk]; exact fun z=>e (Option.some.inj z).symm)]
   exact Option.or_none
theorem zgP (kds:List (D×D)) (k:List Key) (d:D):(dPutD kds k d).length<=kds.length + 1:=by
 unfold dPutD
 split
 ·rw [List.length_map]; omega
 ·rw [List.length_append,List.length_cons,List.length_nil]; omega
inductive DK (K:PySem.W.Frag) (H:Hp):List (List Key×V)->List (D×D)->Prop
 | nil:DK K H [] []
 | cons {k:List Key} {v:V} {d:D} {r:List (List Key×V)} {s:List (D×D)}:HD K H v d->DK K H r s->DK K H ((k,v) :: r) ((.tuple (k.map keyD),d) :: s)
section
variable {K:PySem.W.Frag} {H H':Hp} {A:List Addr}
theorem DK.of:∀ {kvs:List (List Key×V)} {kds:List (D×D)},kds.map (·.1)=kvs.map (fun p=>PyData.tuple (p.1.map keyD))->HDs K H (kvs.map (·.2)) (kds.map (·.2))->DK K H kvs kds
 | [],[],_,_=>.nil
 | [],_ :: _,e,_=>by simp at e
 | _ :: _,[],e,_=>by simp at e
 | (k,v) :: r,(x,d) :: s,e,h=>by
   simp only [List.map_cons,List.cons.injEq] at e
   obtain ⟨e1,e2⟩:=e
   subst e1
   cases h with
   | cons h1 h2=>exact .cons h1 (DK.of e2 h2)
theorem DK.keys:∀ {kvs:List (List Key×V)} {kds:List (D×D)},DK K H kvs kds->kds.map (·.1)=kvs.map (fun p=>PyData.tuple (p.1.map keyD))
 | _,_,.nil=>rfl
 | _,_,.cons _ t=>by rw [List.map_cons,List.map_cons,DK.keys t]
theorem DK.vals:∀ {kvs:List (List Key×V)} {kds:List (D×D)},DK K H kvs kds->HDs K H (kvs.map (·.2)) (kds.map (·.2))
 | _,_,.nil=>.nil
 | _,_,.cons h t=>.cons h (DK.vals t)
theorem DK.own {kvs:List (List Key×V)} {kds:List (D×D)} (h:DK K H kvs kds):OwO K H (.dT kvs) (.dict kds):=.dct h.keys h.vals
theorem DK.same {kvs:List (List Key×V)} {kds:List (D×D)} (s:Same H H') (h:DK K H kvs kds):DK K H' kvs kds:=DK.of h.keys (h.vals.same s)
theorem DK.len:∀ {kvs:List (List Key×V)} {kds:List (D×D)},DK K H kvs kds->kvs.length=kds.length
 | _,_,.nil=>rfl
 | _,_,.cons _ t=>by rw [List.length_cons,List.length_cons,DK.len t]
theorem DK.look (k:List Key):∀ {kvs:List (List Key×V)} {kds:List (D×D)},DK K H kvs kds->(∀ d,dLook kds k=some d->∃ v,valV kvs k=some v /\ HD K H v d) /\ (dLook kds k=none->valV kvs k=none)
 | _,_,.nil=>⟨fun d e=>(by cases e),fun _=>rfl⟩
 | _,_,.cons (k:=j) (v:=v) (d:=d) (r:=r) (s:=s) h t=>by
   have hj:keyOf (.tuple (j.map keyD))=some j:=zcm j
   by_cases e:j=k
   ·subst e
    rw [zbe (p:=(PyData.tuple (j.map keyD),d)) hj,zec (p:=(j,v)) rfl]
    exact ⟨fun d' q=>by cases q; exact ⟨v,rfl,h⟩,fun q=>by cases q⟩
   ·rw [zbd (p:=(PyData.tuple (j.map keyD),d)) (by rw [hj]; exact fun z=>e (Option.some.inj z)),zed (p:=(j,v)) e]
    exact DK.look k t
theorem DK.rep (k:List Key) {v:V} {d:D} (hv:HD K H v d):∀ {kvs:List (List Key×V)} {kds:List (D×D)},DK K H kvs kds->DK K H (kvs.map fun kv=>if kv.1=k then (kv.1,v) else kv) (kds.map fun p=>if keyOf p.1=some k then (p.1,d) else p)
 | _,_,.nil=>.nil
 | _,_,.cons (k:=j) h t=>by
   have hj:keyOf (.tuple (j.map keyD))=some j:=zcm j
   rw [List.map_cons,List.map_cons]
   by_cases e:j=k
   ·subst e
    rw [if_pos rfl,if_pos hj]; exact .cons hv (DK.rep j hv t)
   ·rw [if_neg e,if_neg (by rw [hj]; exact fun z=>e (Option.some.inj z))]; exact .cons h (DK.rep k hv t)
theorem DK.app:∀ {a:List (List Key×V)} {b:List (D×D)} {a':List (List Key×V)} {b':List (D×D)},DK K H a b->DK K H a' b'->DK K H (a ++ a') (b ++ b')
 | _,_,_,_,.nil,q=>q
 | _,_,_,_,.cons h t,q=>.cons h (DK.app t q)
theorem DK.put {kvs:List (List Key×V)} {kds:List (D×D)} (h:DK K H kvs kds) (k:List Key) {v:V} {d:D} (hv:HD K H v d):DK K H (putK kvs k v) (dPutD kds k d):=by
 have e:(kvs.any fun kv=>decide (kv.1=k))=kds.any fun p=>decide (keyOf p.1=some k):=by
  rw [zfA,zds]
  cases q:dLook kds k with
  | none=>rw [(h.look k).2 q]; rfl
  | some x=>obtain ⟨w,hw,_⟩:=(h.look k).1 x q; rw [hw]; rfl
 unfold putK dPutD
 rw [e]
 split
 ·exact h.rep k hv
 ·exact h.app (.cons hv .nil)
theorem ShD.dk {x:V} {kds:List (D×D)} (h:ShD K A H x (.dict kds)) (hf:fnD kds=false):∃ a kvs,x=.ref a /\ H a=some (.dT kvs) /\ DK K (wo H A) kvs kds:=
 let ⟨a,kvs,e,h1,h2,h3⟩:=h.dict hf; ⟨a,kvs,e,h1,DK.of h2 h3⟩
theorem ShD.key {y:V} {d:D} {k:List Key} (h:ShD K A H y d) (e:keyOf d=some k):∃ b,y=.ref b /\ TupT H b (k.map kV):=by
 cases d with
 | tuple ds=>
   obtain ⟨b,ys,rfl,hb,hd⟩:=h.tupH
   exact ⟨b,rfl,by rw [<- zg7 hd e]; exact hb⟩
 | _=>cases e
end
noncomputable def gDget (gd gk:DS->Option D):DS->Option D:=fun δ=>(gd δ).bind fun x=>(gk δ).bind fun y=>match x with
 | .dict kds=>if fnD kds=true then none else (keyOf y).bind fun k=>dLook kds k
 | _=>none
noncomputable def gDgetD (gd gk ge:DS->Option D):DS->Option D:=fun δ=>(gd δ).bind fun x=>(gk δ).bind fun y=>(ge δ).bind fun z=>match x with
 | .dict kds=>if fnD kds=true then none else (keyOf y).bind fun k=>some ((dLook kds k).getD z)
 | _=>none
noncomputable def gSetK (i:Nat) (gk ge:DS->Option D):DS->Option Res:=fun δ=>(ge δ).bind fun d=>(gVar i δ).bind fun x=>(gk δ).bind fun y=>match x with
 | .dict kds=>(keyOf y).bind fun k=>if kds.length < 100000 then some (.nx (δ.set i (some (.dict (dPutD kds k d))))) else none
 | _=>none
noncomputable def gSetD (i:Nat) (g:DS->Option (List (D×D))):DS->Option Res:=fun δ=>(g δ).bind fun d=>some (.nx (δ.set i (some (.dict d))))
noncomputable def gDisp1 (gk ge:DS->Option D):DS->Option (List (D×D)):=fun δ=>(gk δ).bind fun y=>(ge δ).bind fun d=>(keyOf y).bind fun k=>some [(.tuple (k.map keyD),d)]
noncomputable def tNd (K:PySem.W.Frag) (O:List Nat) (g:DS->Option (List (D×D))):TE:=fun σ H Q=>∃ U A0 δ kds,Rel K O U A0 σ δ H /\ g δ=some kds /\
 ∀ r kvs H',Same H H'->H r=none->H' r=some (.dT kvs)->DK K (wo H' (r :: (U ++ A0))) kvs kds->Q (.ref r) H'
section
variable {X:Cx} {O:List Nat} {fr:Fr} {st:Stmt} {gd gk ge:DS->Option D} {gl:DS->Option (List (D×D))} {o i e f value:Expr} {pos apos cpos:Pos}
set_option tactic.hygienic true in
theorem zfM (hu:X.A.units + 1 < cLine) (ho:PE X o (tSh X.K O gd)) (hi:PE X i (tSh X.K O gk)) (hs:NoSl i:=by intro _ _; rfl):PE X (.Subscript o i pos) (tE X.K O (gDget gd gk)):=(zpe hu ho hi hs).mono fun σ H Q hh=>hh.e fun U A0 δ d R ed q=>by
 obtain ⟨x,e1,e2⟩:=bind1 ed
 obtain ⟨y,e3,e4⟩:=bind1 e2
 refine ⟨U,A0,δ,x,R,e1,fun v H1 s1 h1=>⟨U,A0,δ,y,R.same s1,e3,fun v2 H2 s2 h2=>?_⟩⟩
 cases x with
 | dict kds=>
   have e4:(if fnD kds=true then none else (keyOf y).bind fun k=>dLook kds k)=some d:=e4
   split at e4
   ·cases e4
   rename_i hf
   have hf:=Bool.eq_false_iff.mpr hf
   obtain ⟨k,e5,e6⟩:=bind1 e4
   obtain ⟨a,kvs,rfl,ha,dk⟩:=(h1.same s2).dk hf
   obtain ⟨b,rfl,hb⟩:=h2.key e5
   obtain ⟨w,hw,hd⟩:=(dk.look k).1 d e6
   refine ⟨a,w,rfl,?_,q w H2 (s1.trans s2) hd⟩
   rw [<- hw]; exact DGet.t ha hb
 | _=>cases e4
set_option tactic.hygienic true in
theorem zf0 (hu:X.A.units + 1 < cLine) (ho:PE X o (tSh X.K O gd)) (hi:PE X e (tSh X.K O gk)) (hx:PE X f (tE X.K O ge)) (m:M2 X o "get" apos e f cpos:=by exact ⟨rfl,rfl,rfl,rfl⟩):PE X (.Call (.Attribute o "get" apos) [e,f] [] cpos) (tE X.K O (gDgetD gd gk ge)):=(znf hu ho hi hx m).mono fun σ H Q hh=>hh.e fun U A0 δ d R ed q=>by
 obtain ⟨x,e1,e2⟩:=bind1 ed
 obtain ⟨y,e3,e4⟩:=bind1 e2
 obtain ⟨z,e5,e6⟩:=bind1 e4
 refine ⟨U,A0,δ,x,R,e1,fun v H1 s1 h1=>?_⟩
 cases x with
 | dict kds=>
   have e6:(if fnD kds=true then none else (keyOf y).bind fun k=>some ((dLook kds k).getD z))=some d:=e6
   split at e6
   ·cases e6
   rename_i hf
   have hf:=Bool.eq_false_iff.mpr hf
   obtain ⟨k,e7,e8⟩:=bind1 e6
   cases e8
   obtain ⟨a,kvs,rfl,ha,dk⟩:=h1.dk hf
   refine ⟨a,rfl,.inr ⟨_,.inl ha⟩,U,A0,δ,y,R.same s1,e3,fun v2 H2 s2 h2=>⟨U,A0,δ,z,(R.same s1).same s2,e5,fun v3 H3 s3 h3=>?_⟩⟩
   obtain ⟨b,rfl,hb⟩:=(h2.same s3).key e7
   have dk3:=dk.same (zav (A:=U ++ A0) (s2.trans s3))
   refine ⟨valV kvs k,DGet.t ((s2.trans s3) _ _ ha) hb,q _ H3 (s1.trans (s2.trans s3)) ?_⟩
   cases w:dLook kds k with
   | none=>rw [(dk3.look k).2 w]; exact h3
   | some d'=>obtain ⟨w',hw',hd'⟩:=(dk3.look k).1 d' w; rw [hw']; exact hd'
 | _=>cases e6
set_option tactic.hygienic true in
theorem zn3 {i:Nat} (h:PS X st (sDPut (tVar i) (tSh X.K O gk) (tE X.K O ge))) (hi:i∈O:=by decide):PS X st (tS X.K O fr (gSetK i gk ge)):=h.mono fun E σ H hh=>hh.e fun H0 U A0 δ r R F ed P=>by
 obtain ⟨d,e1,e2⟩:=bind1 ed
 obtain ⟨x,e3,e4⟩:=bind1 e2
 obtain ⟨y,e5,e6⟩:=bind1 e4
 obtain ⟨l,o,hl,hU,h1,h2⟩:=R.ow i x hi (zr e3)
 cases h2 with
 | lst _=>cases e6
 | dct kk hv=>
   obtain ⟨k,e7,e8⟩:=bind1 e6
   split at e8
   ·rename_i hz
    cases e8
    refine ⟨U,A0,δ,d,R,e1,fun v H1 s1 hv1=>⟨.ref l,hl,U,A0,δ,y,R.same s1,e5,fun v2 H2 s2 h3=>?_⟩⟩
    obtain ⟨b,rfl,hb⟩:=h3.key e7
    have dk:=DK.of kk hv
    have hlen:=dk.len
    have dk2:=dk.same (zav (A:=U ++ A0) (s1.trans s2))
    refine ⟨l,_,rfl,DPut.t ((s1.trans s2) _ _ h1) hb (small' (by omega)),?_⟩
    exact P U σ _ ((R.same (s1.trans s2)).putO hi hl hU (dk2.put k (hv1.same (zav s2))).own ⟨_,zr e3⟩) ((F.grow (s1.trans s2)).put hU _)
   ·cases e8
theorem zpf {i:Nat} (h:PS X st (tAsg (tNd X.K O gl) (gName i))) (hi:i∈O:=by decide):PS X st (tS X.K O fr (gSetD i gl)):=h.mono fun E σ H hh=>hh.e fun H0 U A0 δ r R F ed P=>by
 obtain ⟨d,e1,e2⟩:=bind1 ed
 cases e2
 exact ⟨U,A0,δ,d,R,e1,fun r kvs H' s hr h1 h2=>P (r :: U) _ H' (R.setO s hr h1 h2.own hi) (F.more s hr)⟩
theorem Rel.hideO {K:PySem.W.Frag} {O:List Nat} {U A0:List Addr} {σ:St} {δ:DS} {H H':Hp} (R:Rel K O U A0 σ δ H) (s:Same H H') {r:Addr} {o:HO} (hr:H r=none) (h:H' r=some o) (ho:OwnO o):Rel K O U (r :: A0) σ δ H':=by
 have k:Same (wo H (U ++ A0)) (wo H' (U ++ (r :: A0))):=fun b o q=>by
  obtain ⟨h1,h2⟩:=zdc q
  rw [zam]
  ·exact s b o h2
  ·simp only [List.mem_append,List.mem_cons,not_or] at h1 ⊢
   exact ⟨h1.1,zU h2 hr,h1.2⟩
 exact {
  len:=R.len
  fz:=fun i d hi e=>let ⟨v,a,b⟩:=R.fz i d hi e; ⟨v,a,b.same k⟩
  ow:=fun i d hi e=>let ⟨l,o,a,c,f,g⟩:=R.ow i d hi e; ⟨l,o,a,c,s _ _ f,g.same k⟩
  inj:=R.inj
  al:=⟨fun a ha=>by
   simp only [List.mem_append,List.mem_cons] at ha
   rcases ha with z | z | z
   ·exact (R.al.same s).1 a (by simp [z])
   ·subst z; exact ⟨_,h,ho⟩
   ·exact (R.al.same s).1 a (by simp [z]),(R.al.same s).2⟩ }
noncomputable def tDisp1 (tk tv:TE):TE:=fun σ H Q=>∀ p,H p=none->tPairs [(tk,tv)] σ (upd H p (.dT [])) fun ps H2=>H2 p=some (.dT []) /\ ∃ b ks y,ps=[(.ref b,y)] /\ TupT H2 b (ks.map kV) /\ Q (.ref p) (upd H2 p (.dT [(ks,y)]))
theorem zmZ {k v:Expr} {tk tv:TE} (hu:X.A.units + 1 < cLine) (hk:PE X k tk) (hv:PE X v tv):PE X (.Dict [some k] [v] pos) (tDisp1 tk tv):=by
 intro pins s σ H Q I q
 have hn:=I.hok.fresh (Nat.le_refl s.heap.objs.size)
 have I1:=I.laid (a:=s.heap.objs.size) (o:=.dT []) (h':=s.heap.push { cls:=.type "dict",data:=.dict #[] }) (t':=s.toks) (fun _ _ q=>Heap.get?_push_of_some _ q) (Nat.le_refl _) (zmn s.heap I.big)
 have pp:PPs X pos [some k] [v] [(tk,tv)]:=zmk hk hv zoO
 refine wpAny_Dict_any rfl rfl (by simp) (by simp) (thn (pp pins _ σ _ _ I1 (q _ hn)) fun ws s2 ⟨ps,H2,I2,rel,e,b,ks,y,e2,e4,q2⟩=>?_)
 subst e2
 cases rel with
 | @cons _ w _ _ h t=>
   cases t
   obtain ⟨u1,u2⟩:=w
   obtain ⟨r1,r2⟩:=h
   cases (show u1=Value.ref b from r1)
   have hf:storeAll s.heap.objs.size [(Value.ref b,u2)]=(do dictSet s.heap.objs.size (Value.ref b) u2):=by
    unfold storeAll
    rw [List.forIn_cons]
    simp
   rw [hf]
   obtain ⟨z,hd,xs,rl,dd⟩:=zp6 I2.hok e
   cases rl
   refine wpAny_dictSet_heap (show X.A.units < cLine by omega) (zgs I2.hok e4) dd (fun h' dd' hs=>⟨.ref s.heap.objs.size,_,?_,rfl,q2⟩) (Nat.zero_le _)
   obtain ⟨q,es,ep,hq,h2,h3,h4,_,h5⟩:=dd'
   have rel0:KT H2 [] []:=.nil
   refine zhN I2 (by rw [e]; exact True.intro) hs ⟨q,hq⟩ ⟨small (by simp),hd,_,(rel0.put ks e4 r2).keeps fun c ys ec=>?_,q,es,ep,hq,h2,h3,h4,h5⟩
   exact ec.dT e
theorem zmP {k v:Expr} (hu:X.A.units + 1 < cLine) (hk:PE X k (tSh X.K O gk)) (hv:PE X v (tE X.K O ge)):PE X (.Dict [some k] [v] pos) (tNd X.K O (gDisp1 gk ge)):=(zmZ hu hk hv).mono fun σ H Q ⟨U,A0,δ,d,R,ed,q⟩ p hp=>by
 obtain ⟨y,e1,e2⟩:=bind1 ed
 obtain ⟨d',e3,e4⟩:=bind1 e2
 obtain ⟨ks,e5,e6⟩:=bind1 e4
 cases e6
 have s0:=z9 hp (.dT [])
 have R0:Rel X.K O U (p :: A0) σ δ (upd H p (.dT [])):=R.hideO s0 hp z8 trivial
 refine ⟨U,p :: A0,δ,y,R0,e1,fun v H1 s1 h1=>⟨U,p :: A0,δ,d',R0.same s1,e3,fun w H2 s2 h2=>?_⟩⟩
 obtain ⟨b,rfl,hb⟩:=(h1.same s2).key e5
 have hH2:H2 p=some (.dT []):=(s1.trans s2) _ _ z8
 refine ⟨hH2,b,ks,w,rfl,hb,q p _ _ (s0.trans (s1.trans s2) |>.upd hp _) hp z8 ?_⟩
 have ew:wo (upd H2 p (.dT [(ks,w)])) (p :: (U ++ A0))=wo H2 (p :: (U ++ A0)):=znu (by simp)
 rw [ew]
 exact .cons (h2.same (zd1 fun a ha=>by simp only [List.mem_append,List.mem_cons] at ha ⊢; rcases ha with z | z | z; exact .inr (.inl z); exact .inl z; exact .inr (.inr z))) .nil
end
end L2
namespace LS
open PySem PySem.Spec PyProof.Rows
section
variable {prog:Program} {w:World} {A:Around} {E:Value->Shared->Prop} {s:Shared}
theorem newK {T nw:String} {Bn:Builtin} {us:List Value} {kw:List (Str×Value)} {S:PySem.Spec} {Q:Value->Shared->Prop} (ft:TypeCalled T nw "object.__init__") (c1:checkTypeCall T ⟨us,kw⟩=pure ()) (c2:checkBuiltinCall nw ⟨.type T :: us,kw⟩=pure ())
  (en:entryFor table nw=some Bn) (g:Meets (Bn ⟨.type T :: us,kw⟩) S) (c3:∀ o,argsOk "object.__init__" ⟨o :: us,kw⟩) (gi:∀ o,Meets (Builtin.«object.__init__» ⟨o :: us,kw⟩) (fun _ R s=>s.TypeIs o T /\ R (.ok (.ret .none)) s))
  (h:S A.in1 (wants (fun o s1=>s1.TypeIs o T /\ Q o s1) E) s):wpAny (model prog w) A (call (.type T) us kw) Q E s:=by
 obtain ⟨hc,tl,hm⟩:=ft.mro
 have k1:=ft.made
 have k2:=ft.sub
 have k3:=ft.notType
 have k4:=ft.canCreate
 refine wpAny_call (codeAny_of_tree (show wpAny _ _ (callAny (.type T) _) _ _ _ from wpAny_pure ⟨Code.quiet_builtin _ (by decide +kernel),codeAny_builtin F.entry_type_call ?_⟩))
 rw [Around.under_plain (weight_type_call_type T us kw) (units_type_call_type T us kw)]
 repeat any_goals first | assumption | wp_step
 refine codeAny_mono (codeAny_call_builtin ft.plain en (wpAny_of_eq c2 (g prog w A.in1 _ s h))) fun r s1 hr=>?_
 cases r with
 | error e=>exact hr
 | ok fl=>
   cases fl with
   | ret o=>
     obtain ⟨hT,hq⟩:=hr
     have k5:=ft.init.lookup
     have k6:=ft.init.bind o
     repeat any_goals first | assumption | wp_step
     refine codeAny_mono (codeAny_call_builtin ft.init.plain F.entry_object_init (ft.init.check _ _ _ _ _ _ _ _ hT (c3 o) (gi o prog w A.in1 (wants (fun r s2=>r=.none /\ Q o s2) E) s1 ⟨hT,rfl,hq⟩))) fun r2 s2 hr2=>?_
     cases r2 with
     | error e=>exact hr2
     | ok f2=>
       cases f2 with
       | ret r=>
         obtain ⟨rfl,q2⟩:=hr2
         repeat any_goals first | assumption | wp_step
       | _=>exact hr2.elim
   | _=>exact hr.elim
end
theorem initK {T nw:String} {o:Value} {us:List Value} {kw:List (Str×Value)} (hl:typeLookup (.type T) "__init__"=pure (some (.builtin "object.__init__"))) (hm:Bind.madeBy (.type T)=pure (some nw)) (hne:(some nw != some "object.__new__")=true) (u:Value):
  Meets (Builtin.«object.__init__» ⟨o :: u :: us,kw⟩) (fun _ R s=>s.TypeIs o T /\ R (.ok (.ret .none)) s):=by
 refine Meets.of_wp fun prog w A R s hs=>?_
 obtain ⟨hT,hq⟩:=hs
 repeat any_goals first | assumption | wp_step
 exact ⟨_,rfl,hq⟩
theorem tcS (a b:Value):checkTypeCall "enumerate" ⟨[a],[("start",b)]⟩=pure ():=by kernel_rfl
theorem bcS (a b:Value):checkBuiltinCall "enumerate.__new__" ⟨[.type "enumerate",a],[("start",b)]⟩=pure ():=by kernel_rfl
theorem aoS (o a b:Value):argsOk "object.__init__" ⟨[o,a],[("start",b)]⟩:=by kernel_rfl
set_option maxHeartbeats 1000000 in
set_option tactic.hygienic true in
theorem newS (l:Addr) (items:Array Value) (n:Nat) (dct:Option Addr) (sl:Array (Option Value)) (t:Tok):
  Meets (Builtin.«enumerate.__new__» ⟨[.type "enumerate",.ref l],[("start",.int 1 t)]⟩) (fun _ R s=>s.heap.get? l=some { cls:=.type "tuple",dict:=dct,data:=.seq items n,slots:=sl } /\
   R (.ok (.ret (.ref (s.heap.push { cls:=.type "tuple_iterator",data:=.fields #[.ref l,.int 0 0] }).objs.size)))
     { s with heap:=(s.heap.push { cls:=.type "tuple_iterator",data:=.fields #[.ref l,.int 0 0] }).push { cls:=.type "enumerate",data:=.fields #[.none,.bool false,.ref s.heap.objs.size,rawInt 1,.none,.none] } }):=
 .of_wp fun prog w A R s h=>by
  obtain ⟨hp,g,d,tk,os⟩:=s; obtain ⟨hl,h⟩:=h
  have hsub:=sub_enumerate
  have hL:Heap.IsTuple (Shared.heap ⟨hp,g,d,tk,os⟩) l items:=⟨_,hl,rfl,n,rfl⟩
  wp_walk using AutoSeq1.wpAny_loadPart' hl
  refine wpAny_stack_any fun st=>wpAny_pure ?_
  split
  ·rename_i c _ _ _ _ _
   cases (c == Value.type "enumerate")
   ·wp_walk using AutoSeq1.wpAny_loadPart' hl,wpAny_pyIter_tuple hL
    exact ⟨_,rfl,h⟩
   ·wp_walk using AutoSeq1.wpAny_loadPart' hl,wpAny_pyIter_tuple hL
    exact ⟨_,rfl,h⟩
  ·wp_walk using AutoSeq1.wpAny_loadPart' hl,wpAny_pyIter_tuple hL
   exact ⟨_,rfl,h⟩
end LS
namespace LS
open PySem PySem.Spec PyProof.Rows
section
variable {prog:Program} {w:World} {A:Around} {E:Value->Shared->Prop} {s:Shared}
theorem zjK {l:Addr} {items:Array Value} {t:Tok} {Q:Value->Shared->Prop} (hL:s.heap.IsTuple l items)
  (h:∀ h',IsEnum h' (s.heap.objs.size + 1) s.heap.objs.size 1 .none->h'.IsTupleIter s.heap.objs.size l 0->h'.objs.size=s.heap.objs.size + 2->(∀ b o,s.heap.get? b=some o->h'.get? b=some o)->Q (.ref (s.heap.objs.size + 1)) { s with heap:=h' }):
  wpAny (model prog w) A (call (.type "enumerate") [.ref l] [("start",.int 1 t)]) Q E s:=by
 obtain ⟨⟨c,dct,dt,sl⟩,hl,hc,n,hd⟩:=hL
 simp only at hc hd
 subst hc hd
 refine newK PySem.F.called_enumerate (tcS _ _) (bcS _ _) PySem.F.entry_enumerate_new (newS l items n dct sl t) (fun o=>aoS o _ _) (fun o=>initK PySem.F.called_enumerate.init.lookup PySem.F.called_enumerate.made (by decide) _) ⟨hl,?_⟩
 have hz:(s.heap.push { cls:=.type "tuple_iterator",data:=.fields #[.ref l,.int 0 0] }).objs.size=s.heap.objs.size + 1:=Heap.size_push ..
 show _ /\ _
 rw [hz]
 have he:IsEnum ((s.heap.push { cls:=.type "tuple_iterator",data:=.fields #[.ref l,.int 0 0] }).push { cls:=.type "enumerate",data:=.fields #[.none,.bool false,.ref s.heap.objs.size,rawInt 1,.none,.none] }) (s.heap.objs.size + 1) s.heap.objs.size 1 .none:=by
  have q:=Heap.get?_push_size (s.heap.push { cls:=.type "tuple_iterator",data:=.fields #[.ref l,.int 0 0] }) (o:={ cls:=.type "enumerate",data:=.fields #[.none,.bool false,.ref s.heap.objs.size,rawInt 1,.none,.none] }) rfl
  rw [hz] at q; exact q
 exact ⟨⟨_,he,rfl⟩,h _ he ⟨_,Heap.get?_push_of_some _ (Heap.get?_push_size _ rfl),rfl,rfl⟩ (by rw [Heap.size_push,hz]) fun b o x=>Heap.get?_push_of_some _ (Heap.get?_push_of_some _ x)⟩
theorem ziw {it:Addr} {fp:List Addr} {n:Nat} {P:Nat->Value->Prop} {St:Nat->Heap->Prop} (d:Draws prog w A it fp n P St):Draws prog w A it fp (n + 1) (fun i v=>∃ j,i=j + 1 /\ P j v) (fun i h=>∃ j,i=j + 1 /\ St j h) where
 live:=fun _ h ⟨j,_,q⟩=>d.live j h q
 frame:=fun _ h h' ⟨j,e,q⟩ k=>⟨j,e,d.frame j h h' q k⟩
 item:=fun i s Q E hi ⟨j,e,q⟩ hQ=>d.item j s Q E (by omega) q fun x h' tk p st sb=>hQ x h' tk ⟨j,e,p⟩ ⟨j + 1,by omega,st⟩ sb
 done:=fun s Q E ⟨j,e,q⟩ hE=>d.done s Q E ((show j=n by omega) ▸ q) hE
theorem ze5 {M:Model} {env:Env} {pos:Pos} {T:String} {e:Expr} {es:List Expr} {kws:List Keyword} {Q:Value->Shared->Prop}
  (h:wpAny M A (spliced (backTo pos (starEach (e :: es) env))) (fun vs s1=>wpAny M A (evalAll ((backToKw pos (keywordEach kws env)).map (·.2))) (fun ks s2=>wpAny M A (call (.type T) vs (((backToKw pos (keywordEach kws env)).filterMap (·.1)).zip ks)) Q E s2) E s1) E s)
  (he:backTo pos (starEach (e :: es) env)=(false,eval e env) :: backTo pos (starEach es env)) (hp:(backTo pos (starEach (e :: es) env)).any (·.1)=false) (ha:(backToKw pos (keywordEach kws env)).all (·.1.isSome)=true) (hk:(backToKw pos (keywordEach kws env)).any (·.1.isNone)=false):
  wpAny M A (callWith pos (.type T) [] (backTo pos (starEach (e :: es) env)) (backToKw pos (keywordEach kws env))) Q E s:=by
 have h1:wpAny M A (evalArgs (.type T) true (backTo pos (starEach (e :: es) env)) (backToKw pos (keywordEach kws env))) (fun a s1=>wpAny M A (call (.type T) a.pos a.kw) Q E s1) E s:=by
  rw [he] at h ⊢
  exact evalArgs_kwB ha h
 unfold callWith
 refine wpAny_bind (wpAny_holding (wpAny_mono h1 (fun a s1 q=>wpAny_bind (wpAny_standAt ?_)) fun _ _ x=>x))
 simp only [hp,hk,Bool.or_false]
 exact wpAny_bind (wpAny_pure (wpAny_bind (wpAny_mono q (fun r s2 hr=>wpAny_bind (wpAny_holding (wpAny_point (wpAny_pure hr)))) fun _ _ x=>x)))
end
end LS
namespace L2
open PySem PySem.Spec PyProof.Rows LS
noncomputable def IteS (K:PySem.W.Frag) (a:Addr):It:=
 ⟨fun i H=>∃ xs x,SqT K H a xs /\ xs[i]?=some x,fun i H x H'=>∃ p v,H p=none /\ x=.ref p /\ H'=upd H p (.tup [.int ((i:Int) + 1),v]) /\ ∀ xs,SqT K H a xs->xs[i]?=some v,fun i H=>∃ xs,SqT K H a xs /\ xs.length=i⟩
theorem zi4 {P:Program} {w:World} {K:PySem.W.Frag} {es:List Expr} {kk} {tpos:Pos} (a e it:Addr) (hne:e≠it):Turn P w K (.Tuple es kk tpos) (IteS K a) [e,it] e (fun i h=>(∃ old,IsEnum h e it ((i:Int) + 1) old) /\ h.IsTupleIter it a i) where
 mem:=by simp
 obj:=fun i h st b hb=>by
  obtain ⟨⟨old,he⟩,o,ho,c,d⟩:=st
  rcases List.mem_cons.mp hb with z | z
  ·subst z; exact ⟨_,he,fun v z=>by cases z⟩
  ·have z:b=it:=by simpa using z
   subst z; exact ⟨o,ho,fun v z=>by rw [d] at z; cases z⟩
 keep:=fun i h h' st k=>by
  obtain ⟨⟨old,he⟩,st2⟩:=st
  exact ⟨⟨old,k e (by simp) _ he⟩,st2.at fun o eo=>k it (by simp) o eo⟩
 item:=by
  intro X hP hw hK hc i pins s σ H E I hf st hg
  subst hP hw hK
  obtain ⟨xs,x,hq,hx⟩:=hg
  obtain ⟨its,rv,p,hz⟩:=I.tuple hq
  obtain ⟨u,hu,ru⟩:=rv.get hx
  obtain ⟨⟨old,he⟩,st2⟩:=st
  have hp:s.heap.IsTuple a its.toArray:=p
  have hea:e≠a:=fun z=>by
   obtain ⟨o,ho,hcl,_⟩:=hp
   rw [<- z] at ho
   have:=ho.symm.trans he
   cases this
   exact absurd (Value.type.inj hcl) (by decide)
  have hia:a≠it:=fun z=>by
   obtain ⟨o,ho,hcl,_⟩:=hp
   obtain ⟨o2,ho2,hcl2,_⟩:=st2
   rw [z] at ho
   have:=ho.symm.trans ho2
   cases this
   rw [hcl] at hcl2
   exact absurd (Value.type.inj hcl2) (by decide)
  have hil:i < its.toArray.size:=by
   have:=(List.getElem?_eq_some_iff.mp hu).1
   simpa using this
  refine wpAny_pyNext_enum_itemD (i:=i + 1) (LS.ziw (zcs (A:=X.A.in1) (I.ok.hd hc) it a hia its.toArray)) (by push_cast; exact he) ⟨i,rfl,st2,hp⟩ (Nat.succ_lt_succ hil) hne (by simp [hne,hea]) fun y h1 tk hy heo hst1 ht1 hz1 hk1=>?_
  obtain ⟨j,ej,hy⟩:=hy
  obtain ⟨j',ej',hst1⟩:=hst1
  cases ej
  cases ej'
  push_cast at heo ht1
  have hyu:y=u:=by
   have h3:its.toArray[i]?=some u:=by simpa using hu
   have h4:its.toArray[i]?=some y:=hy
   rw [h3] at h4; cases h4; rfl
  subst hyu
  refine ⟨_,rfl,wpAny_letOwnedTupleGo_enum heo fun h2 he2 hs2=>?_⟩
  replace hs2:Heap.SameBut e h1 h2:=hs2
  have heH:e < s.heap.objs.size:=Heap.lt_size he
  have I1:Inv X pins σ H { s with heap:=h2,toks:=tk + 1 }:=I.turnedL (t':=tk + 1) (ch:=[e,it]) (fun b o hb eo=>by
   simp only [List.mem_cons,List.not_mem_nil,or_false,not_or] at hb
   exact (hs2.2 b hb.1).trans (hk1 b o hb.1 hb.2 eo)) hf
  have ht2:IsTup h2 s.heap.objs.size [Value.int ((i:Int) + 1) tk,y].toArray:=⟨_,(hs2.2 _ (Nat.ne_of_gt heH)).trans ht1,rfl,_,rfl⟩
  have hfr:H s.heap.objs.size=none:=I.hok.fresh (Nat.le_refl _)
  have fo:=I.fpOk (H':=H) (Nat.le_refl _) hfr
  have I2:Inv X pins σ (upd H s.heap.objs.size (.tup [.int ((i:Int) + 1),x])) { s with heap:=h2,toks:=tk + 1 }:=I1.trackT hfr (Nat.le_trans I.sz (Nat.le_refl _)) fo.2.1 fo.2.2.2.2.1 fo.2.2.2.2.2 ht2 (.cons ⟨_,rfl⟩ (.cons ru .nil)) (by show 2<=sizeLine; decide)
  refine ⟨.ref s.heap.objs.size,_,I2,rfl,⟨_,x,hfr,rfl,rfl,fun ys hy=>by rw [I.tuple_inj hy hq]; exact hx⟩,⟨⟨y,by push_cast; exact he2⟩,hst1.1.extBut hs2.extBut (Ne.symm hne)⟩,fun b hb=>?_⟩
  have hlt:b < s.heap.objs.size:=by
   rcases List.mem_cons.mp hb with z | z
   ·subst z; exact heH
   ·have z:b=it:=by simpa using z
    subst z
    obtain ⟨o,ho,_⟩:=st2
    exact Heap.lt_size ho
  rw [zH (Nat.ne_of_lt hlt)]
  exact (hf b hb).1
 done:=by
  intro X hP hw hK hc i pins s σ H E I hf st hg
  subst hP hw hK
  obtain ⟨xs,hq,hx⟩:=hg
  obtain ⟨its,rv,p,hz⟩:=I.tuple hq
  obtain ⟨⟨old,he⟩,st2⟩:=st
  have hp:s.heap.IsTuple a its.toArray:=p
  have hia:a≠it:=fun z=>by
   obtain ⟨o,ho,hcl,_⟩:=hp
   obtain ⟨o2,ho2,hcl2,_⟩:=st2
   rw [z] at ho
   have:=ho.symm.trans ho2
   cases this
   rw [hcl] at hcl2
   exact absurd (Value.type.inj hcl2) (by decide)
  have hl:=rv.length
  have hsz:its.toArray.size=i:=by rw [List.size_toArray,<- hl]; exact hx
  refine wpAny_pyNext_enum_endD (LS.ziw (zcs (A:=X.A.in1) (I.ok.hd hc) it a hia its.toArray)) he ⟨_,rfl,by rw [hsz]; exact st2,hp⟩ fun h1 eb=>⟨rfl,?_⟩
  exact I.turnedL (t':=s.toks) (ch:=[e,it]) (fun b o hb eo=>eb b o (fun z=>hb (by simp [z])) eo) hf
 self:=fun _ _ _ _ _ st h=>by
  obtain ⟨⟨old,he⟩,_⟩:=st
  exact wpAny_pyIter_enum he h
section
variable {X:Cx} {O:List Nat} {a:Expr} {ge:DS->Option D} {p pos:Pos} {es:List Expr} {kk} {tpos:Pos}
noncomputable def iEnumS (K:PySem.W.Frag) (ta:TA):TI:=fun σ H R=>ta σ H fun vs H1=>∃ a xs,vs=[.ref a] /\ SqT K H1 a xs /\ R (IteS K a) H1
theorem zmX {ta:TA} {jj} {cp kp:Pos} (hg:Gl X "enumerate") (hm:X.mg "enumerate"=none) (ha:PA X [a] ta) (hs:starEach [a] X.env=[(false,eval a X.env)]:=by rfl):PI X (.Tuple es kk tpos) (.Call (.Name "enumerate" p) [a] [⟨some "start",.Constant (.int 1) jj cp,kp⟩] pos) (iEnumS X.K ta):=by
 intro pins s σ H R I h
 refine wpAny_Call_Name_kw (zdk I hg hm zcE (LS.ze5 (thn (ha pos pins s σ H _ I h) fun us s1 ⟨vs,H1,I1,r1,q1⟩=>?_) (by rw [hs]; rfl) (by rw [hs]; rfl) rfl rfl))
 obtain ⟨b,xs,e,hq,q⟩:=q1
 subst e
 obtain ⟨u,rfl,ru⟩:=vals1 r1
 cases ru
 refine PyProof.Rows.evalAll_cons (wpAny_bind (thn (ze pins s1 σ H1 (fun v H2=>v=V.int 1 /\ H2=H1) I1 ⟨rfl,rfl⟩) fun kv s2 ⟨v,H2,I2,rv2,e1,e2⟩=>wpAny_bind (wpAny_standAt (wpAny_pure (PyProof.Rows.evalAll_nil ?_)))))
 subst e1 e2
 obtain ⟨t,rfl⟩:=rv2
 obtain ⟨its,rv,pl,hz⟩:=I2.tuple hq
 refine LS.zjK (show s2.heap.IsTuple b its.toArray from pl) fun h' he hit hsz hk=>?_
 refine wpAny_pyIter_enum he ?_
 refine ⟨s2.heap.objs.size + 1,[s2.heap.objs.size + 1,s2.heap.objs.size],_,_,H2,rfl,I2.kept (t':=s2.toks) hk,zi4 b _ s2.heap.objs.size (Nat.succ_ne_self _),⟨⟨_,he⟩,hit⟩,fun b hb=>?_,q⟩
 have hle:s2.heap.objs.size<=b:=by
  simp only [List.mem_cons,List.not_mem_nil,or_false] at hb
  rcases hb with z | z
  ·rw [z]; exact Nat.le_succ _
  ·rw [z]; exact Nat.le_refl _
 exact I2.fpOk hle (I2.hok.fresh hle)
noncomputable def enumS (l:List D):List D:=(l.zipIdx 1).map fun p=>.tuple [.int (p.2:Nat),p.1]
theorem zlE (l:List D):(enumS l).length=l.length:=by unfold enumS; simp
theorem zkF {l:List D} {i:Nat} {d:D} (h:(enumS l)[i]?=some d):∃ x,l[i]?=some x /\ d=.tuple [.int ((i:Int) + 1),x]:=by
 unfold enumS at h
 rw [List.getElem?_map,List.getElem?_zipIdx] at h
 cases e:l[i]? with
 | none=>rw [e] at h; cases h
 | some x=>
   rw [e] at h
   simp only [Option.map_some,Option.some.injEq] at h
   refine ⟨x,rfl,?_⟩
   rw [<- h]
   push_cast
   rw [Int.add_comm]
noncomputable def gEnumS (g:DS->Option D):DS->Option (List D):=fun δ=>(g δ).bind fun | .tuple l=>some (enumS l) | _=>none
theorem zmc {jj} {cp kp:Pos} (hm:X.mg "enumerate"=none) (ha:PE X a (tE X.K O ge)) (hg:Gl X "enumerate":=by rfl) (hs:starEach [a] X.env=[(false,eval a X.env)]:=by rfl) (hs0:starEach ([]:List Expr) X.env=[]:=by rfl):PI X (.Tuple es kk tpos) (.Call (.Name "enumerate" p) [a] [⟨some "start",.Constant (.int 1) jj cp,kp⟩] pos) (tI X.K O (gEnumS ge)):=
 (zmX hg hm (zZ ha za2 (by rw [hs,hs0])) hs).mono fun σ H Q hh=>hh.e fun U A0 δ ds R ed q=>by
  obtain ⟨x,e1,e2⟩:=bind1 ed
  cases x with
  | tuple l=>
    cases e2
    refine ⟨U,A0,δ,_,R,e1,fun v H' s h=>?_⟩
    cases h with
    | tup hq h=>
      refine ⟨_,_,rfl,.inl (zan.tupT hq),q _ H' s ?_⟩
      intro A' i H2 s2 al
      have h2:=h.same s2
      have hL:SqT X.K H2 _ _:=.inl (zan.tupT (s2.tupT hq))
      refine ⟨fun d hd=>?_,fun hi=>⟨_,hL,by rw [hi,zlE,h2.len]⟩⟩
      obtain ⟨y,hy,rfl⟩:=zkF hd
      obtain ⟨v,hv,hvd⟩:=h2.get hy
      refine ⟨⟨_,v,hL,hv⟩,fun z H3 hz=>?_⟩
      obtain ⟨p,v',hp,rfl,rfl,hv'⟩:=hz
      have:=hv' _ hL
      rw [hv] at this
      cases this
      exact ⟨z9 hp _,HD.newT al hp (.cons (.int _) (.cons hvd .nil))⟩
  | _=>cases e2
end
end L2
namespace L2
open PySem PySem.Spec PyProof.Rows LS
noncomputable def Itz (K:PySem.W.Frag) (a b:Addr):It:=
 ⟨fun i H=>∃ xs ys x y,SqL K H a xs /\ SqL K H b ys /\ xs[i]?=some x /\ ys[i]?=some y,fun i H v H'=>∃ p x y,H p=none /\ v=.ref p /\ H'=upd H p (.tup [x,y]) /\ (∀ xs,SqL K H a xs->xs[i]?=some x) /\ ∀ ys,SqL K H b ys->ys[i]?=some y,fun i H=>∃ xs ys,SqL K H a xs /\ SqL K H b ys /\ min xs.length ys.length=i⟩
theorem zng {P:Program} {w:World} {K:PySem.W.Frag} {es:List Expr} {kk} {tpos:Pos} (l1 l2 z TI TO i1 i2:Addr) (D:ZipApart z TI TO i1 i2 l1 l2):Turn P w K (.Tuple es kk tpos) (Itz K l1 l2) [z,TI,TO,i1,i2] z (fun i h=>IsZip h z TI TO .none /\ IsPair h TI (.ref i1) (.ref i2) /\ (∃ a b,IsPair h TO a b) /\ h.IsListIter i1 l1 i /\ h.IsListIter i2 l2 i) where
 mem:=by simp
 obj:=fun i h st b hb=>by
  obtain ⟨h1,h2,⟨a,c,h3⟩,⟨o4,h4,_,d4⟩,o5,h5,_,d5⟩:=st
  simp only [List.mem_cons,List.not_mem_nil,or_false] at hb
  rcases hb with rfl | rfl | rfl | rfl | rfl
  ·exact ⟨_,h1,fun v z=>by cases z⟩
  ·exact ⟨_,h2,fun v z=>by cases z⟩
  ·exact ⟨_,h3,fun v z=>by cases z⟩
  ·exact ⟨o4,h4,fun v z=>by rw [d4] at z; cases z⟩
  ·exact ⟨o5,h5,fun v z=>by rw [d5] at z; cases z⟩
 keep:=fun i h h' st k=>by
  obtain ⟨h1,h2,⟨a,c,h3⟩,h4,h5⟩:=st
  exact ⟨k z (by simp) _ h1,k TI (by simp) _ h2,⟨a,c,k TO (by simp) _ h3⟩,h4.at fun o e=>k i1 (by simp) o e,h5.at fun o e=>k i2 (by simp) o e⟩
 item:=by
  intro X hP hw hK hc i pins s σ H E I hf st hg
  subst hP hw hK
  obtain ⟨xs,ys,x,y,hq1,hq2,hx,hy⟩:=hg
  obtain ⟨t1,rv1,p1,hz1⟩:=I.list hq1
  obtain ⟨t2,rv2,p2,hz2⟩:=I.list hq2
  obtain ⟨u1,hu1,ru1⟩:=rv1.get hx
  obtain ⟨u2,hu2,ru2⟩:=rv2.get hy
  obtain ⟨s1,s2,s3,s4,s5⟩:=st
  have W:=WalksT.zip2 (prog:=X.prog) (w:=X.w) (A:=X.A) (I.ok.hd hc) z TI TO i1 i2 l1 l2 D t1.toArray t2.toArray
  have hi:i < min t1.toArray.size t2.toArray.size:=by
   have a:=(List.getElem?_eq_some_iff.mp hu1).1
   have b:=(List.getElem?_eq_some_iff.mp hu2).1
   simp only [List.size_toArray]; omega
  refine W.item i s _ E hi ⟨s1,s2,s3,s4,s5,p1.isList,p2.isList⟩ fun T vals h1 tk hv hT ht hm hk=>⟨_,rfl,W.go _ _ _ i T _ _ _ hm fun h2 st2 hk2=>?_⟩
  obtain ⟨x',y',e1,e2,rfl⟩:=hv
  have e1':x'=u1:=by
   have:t1.toArray[i]?=some u1:=by simpa using hu1
   rw [this] at e1; cases e1; rfl
  have e2':y'=u2:=by
   have:t2.toArray[i]?=some u2:=by simpa using hu2
   rw [this] at e2; cases e2; rfl
  subst e1' e2'
  have hTw:=W.apart i T h1 hm
  have I1:Inv X pins σ H { s with heap:=h2,toks:=tk }:=I.turnedL (t':=tk) (ch:=[z,TI,TO,i1,i2]) (fun b o hb eo=>by
   have hb':b∉[z,TO,i1,i2]:=fun q=>hb (by simp only [List.mem_cons,List.not_mem_nil,or_false] at q ⊢; rcases q with q | q | q | q <;> simp [q])
   exact hk2 b o hb' (hk b o hb' eo)) hf
  have ht2:IsTup h2 T [x',y'].toArray:=by
   obtain ⟨o,ho,c,n,d⟩:=ht
   exact ⟨o,hk2 T o hTw ho,c,n,d⟩
  have hfr:H T=none:=I.hok.fresh hT
  have fo:=I.fpOk (H':=H) hT hfr
  have I2:Inv X pins σ (upd H T (.tup [x,y])) { s with heap:=h2,toks:=tk }:=I1.trackT hfr (Nat.le_trans I.sz hT) fo.2.1 fo.2.2.2.2.1 fo.2.2.2.2.2 ht2 (.cons ru1 (.cons ru2 .nil)) (by show 2<=sizeLine; decide)
  obtain ⟨r1,r2,r3,r4,r5,_,_⟩:=st2
  refine ⟨.ref T,_,I2,rfl,⟨T,x,y,hfr,rfl,rfl,fun zs hz=>by rw [I.list_inj hz hq1]; exact hx,fun zs hz=>by rw [I.list_inj hz hq2]; exact hy⟩,⟨r1,r2,r3,r4,r5⟩,fun b hb=>?_⟩
  have hlt:b < s.heap.objs.size:=by
   obtain ⟨a,c,s3⟩:=s3
   obtain ⟨o4,s4,_⟩:=s4
   obtain ⟨o5,s5,_⟩:=s5
   simp only [List.mem_cons,List.not_mem_nil,or_false] at hb
   rcases hb with q | q | q | q | q
   ·rw [q]; exact Heap.lt_size s1
   ·rw [q]; exact Heap.lt_size s2
   ·rw [q]; exact Heap.lt_size s3
   ·rw [q]; exact Heap.lt_size s4
   ·rw [q]; exact Heap.lt_size s5
  rw [zH (Nat.ne_of_lt (Nat.lt_of_lt_of_le hlt hT))]
  exact (hf b hb).1
 done:=by
  intro X hP hw hK hc i pins s σ H E I hf st hg
  subst hP hw hK
  obtain ⟨xs,ys,hq1,hq2,hx⟩:=hg
  obtain ⟨t1,rv1,p1,hz1⟩:=I.list hq1
  obtain ⟨t2,rv2,p2,hz2⟩:=I.list hq2
  obtain ⟨s1,s2,s3,s4,s5⟩:=st
  have W:=WalksT.zip2 (prog:=X.prog) (w:=X.w) (A:=X.A) (I.ok.hd hc) z TI TO i1 i2 l1 l2 D t1.toArray t2.toArray
  have a1:=rv1.length
  have a2:=rv2.length
  have hi:min t1.toArray.size t2.toArray.size=i:=by simp only [List.size_toArray]; omega
  refine W.done s _ E (by rw [hi]; exact ⟨s1,s2,s3,s4,s5,p1.isList,p2.isList⟩) fun h1 tk hk=>⟨rfl,?_⟩
  exact I.turnedL (t':=tk) (ch:=[z,TI,TO,i1,i2]) (fun b o hb eo=>hk b o (fun q=>hb (by simp only [List.mem_cons,List.not_mem_nil,or_false] at q ⊢; rcases q with q | q | q | q <;> simp [q])) eo) hf
 self:=fun _ _ _ _ _ st h=>wpAny_pyIter_zip st.1 h
theorem zpB:bootBuiltins "zip"=some (.type "zip"):=by decide +kernel
section
variable {X:Cx} {O:List Nat} {a b:Expr} {ga gb:DS->Option D} {p pos:Pos} {es:List Expr} {kk} {tpos:Pos}
noncomputable def iZip (K:PySem.W.Frag) (ta:TA):TI:=fun σ H R=>ta σ H fun vs H1=>∃ a b xs ys,vs=[.ref a,.ref b] /\ SqL K H1 a xs /\ SqL K H1 b ys /\ R (Itz K a b) H1
theorem zpl {ta:TA} (hg:Gl X "zip") (hm:X.mg "zip"=none) (ha:PA X [a,b] ta) (hs:starEach [a,b] X.env=(false,eval a X.env) :: starEach [b] X.env:=by rfl) (hs2:(backTo pos (starEach [b] X.env)).any (·.1)=false:=by rfl):PI X (.Tuple es kk tpos) (.Call (.Name "zip" p) [a,b] [] pos) (iZip X.K ta):=by
 intro pins s σ H R I h
 refine wpAny_Call_Name_kw (zdk I hg hm zpB (PyProof.Rows.callWith_type1 (thn (ha pos pins s σ H _ I h) fun us s1 ⟨vs,H1,I1,r1,q1⟩=>?_) hs hs2))
 obtain ⟨l1,l2,xs,ys,e,hq1,hq2,q⟩:=q1
 subst e
 cases r1 with
 | cons r1 t1=>
   cases t1 with
   | cons r2 t2=>
     cases t2
     cases r1
     cases r2
     obtain ⟨t1,rv1,p1,hz1⟩:=I1.list hq1
     obtain ⟨t2,rv2,p2,hz2⟩:=I1.list hq2
     have lt1:l1 < s1.heap.objs.size:=by obtain ⟨o,ho,_⟩:=p1.isList; exact Heap.lt_size ho
     have lt2:l2 < s1.heap.objs.size:=by obtain ⟨o,ho,_⟩:=p2.isList; exact Heap.lt_size ho
     refine call_zip_2 p1.isList p2.isList fun h' hz hTI hTO hi1 hi2 hsz hk=>wpAny_pyIter_zip hz ?_
     refine ⟨s1.heap.objs.size + 4,[s1.heap.objs.size + 4,s1.heap.objs.size + 2,s1.heap.objs.size + 3,s1.heap.objs.size,s1.heap.objs.size + 1],_,_,H1,rfl,I1.kept (t':=s1.toks) hk,zng l1 l2 _ _ _ _ _ (zipApart_new lt1 lt2),⟨hz,hTI,⟨_,_,hTO⟩,hi1,hi2⟩,fun b hb=>?_,q⟩
     have hle:s1.heap.objs.size<=b:=by
      simp only [List.mem_cons,List.not_mem_nil,or_false] at hb
      rcases hb with z | z | z | z | z
      ·rw [z]; exact Nat.le_add_right _ _
      ·rw [z]; exact Nat.le_add_right _ _
      ·rw [z]; exact Nat.le_add_right _ _
      ·rw [z]; exact Nat.le_refl _
      ·rw [z]; exact Nat.le_add_right _ _
     exact I1.fpOk hle (I1.hok.fresh hle)
noncomputable def zipD (x y:List D):List D:=List.zipWith (fun a b=>.tuple [a,b]) x y
noncomputable def gZip (ga gb:DS->Option D):DS->Option (List D):=fun δ=>(ga δ).bind fun x=>(gb δ).bind fun y=>match x,y with
 | .list x,.list y=>some (zipD x y)
 | _,_=>none
theorem ziP (hm:X.mg "zip"=none) (ha:PE X a (tE X.K O ga)) (hb:PE X b (tE X.K O gb)) (hg:Gl X "zip":=by rfl) (hs:starEach [a,b] X.env=(false,eval a X.env) :: starEach [b] X.env:=by rfl) (hs1:starEach [b] X.env=(false,eval b X.env) :: starEach [] X.env:=by rfl) (hs2:(backTo pos (starEach [b] X.env)).any (·.1)=false:=by rfl):PI X (.Tuple es kk tpos) (.Call (.Name "zip" p) [a,b] [] pos) (tI X.K O (gZip ga gb)):=
 (zpl hg hm (zZ ha (zZ hb za2 hs1) hs) hs hs2).mono fun σ H Q hh=>hh.e fun U A0 δ ds R ed q=>by
  obtain ⟨x,e1,e2⟩:=bind1 ed
  obtain ⟨y,e3,e4⟩:=bind1 e2
  refine ⟨U,A0,δ,x,R,e1,fun v H1 s1 h1=>⟨U,A0,δ,y,R.same s1,e3,fun v2 H2 s2 h2=>?_⟩⟩
  cases x with
  | list x=>
    cases y with
    | list y=>
      cases e4
      have h1':=h1.same (zav (A:=U ++ A0) s2)
      cases h1' with
      | lst hq1 d1=>
        cases h2 with
        | lst hq2 d2=>
          refine ⟨_,_,_,_,rfl,(hq1.same zan).sq,(hq2.same zan).sq,q _ H2 (s1.trans s2) ?_⟩
          intro A' i H3 s3 al
          have k1:=d1.same s3
          have k2:=d2.same s3
          have l1:SqL X.K H3 _ _:=((hq1.same s3).same zan).sq
          have l2:SqL X.K H3 _ _:=((hq2.same s3).same zan).sq
          refine ⟨fun d hd=>?_,fun hi=>⟨_,_,l1,l2,by rw [hi,zipD,List.length_zipWith,k1.len,k2.len]⟩⟩
          rw [zipD,List.getElem?_zipWith] at hd
          cases ex:x[i]? with
          | none=>rw [ex] at hd; cases hd
          | some dx=>
            cases ey:y[i]? with
            | none=>rw [ex,ey] at hd; cases hd
            | some dy=>
              rw [ex,ey] at hd
              cases hd
              obtain ⟨vx,hvx,hdx⟩:=k1.get ex
              obtain ⟨vy,hvy,hdy⟩:=k2.get ey
              refine ⟨⟨_,_,vx,vy,l1,l2,hvx,hvy⟩,fun z H4 hz=>?_⟩
              obtain ⟨p,x',y',hp,rfl,rfl,f1,f2⟩:=hz
              have g1:=f1 _ l1
              have g2:=f2 _ l2
              rw [hvx] at g1; rw [hvy] at g2
              cases g1; cases g2
              exact ⟨z9 hp _,HD.newT al hp (.cons hdx (.cons hdy .nil))⟩
    | _=>cases e4
  | _=>cases e4
end
end L2
namespace L2
open PySem PySem.Spec PyProof.Rows
section
variable {X:Cx} {O:List Nat} {e:Expr}
theorem zpD {p:Addr} {xs:List V} {ds:List D} (h:PE X e (tC (.ref p))) (m:(p,xs)∈cstTab) (hd:∀ H,HDs X.K H xs ds):PE X e (tE X.K O (gC (.tuple ds))):=h.mono fun σ H Q hh=>hh.e fun U A0 δ d R ed q=>by
 cases ed
 exact q (.ref p) H (Same.refl H) (.tup (zov (R.al.2 p xs m) R.al) (hd _))
end
theorem znm:∀ {l:List (Addr×List V)} {p:Addr} {xs:List V},l.lookup p=some xs->(p,xs)∈l
 | [],_,_,h=>by cases h
 | (q,ys) :: l,p,xs,h=>by
   rw [List.lookup_cons] at h
   by_cases e:p=q
   ·subst e
    rw [beq_self_eq_true] at h
    cases h
    exact List.mem_cons_self
   ·rw [show (p == q)=false by simpa using e] at h
    exact List.mem_cons_of_mem _ (znm h)
noncomputable def offC (K0:PySem.W.Frag):PySem.W.Frag:=K0.filter fun q=>(cstTab.lookup q.1).isNone
theorem zcx (b:Addr):∀ K0:PySem.W.Frag,(offC K0).lookup b=if (cstTab.lookup b).isNone=true then K0.lookup b else none
 | []=>by simp [offC]
 | (c,o) :: r=>by
   have ih:=zcx b r
   unfold offC at ih ⊢
   rw [List.filter_cons]
   by_cases e:b=c
   ·subst e
    by_cases q:(cstTab.lookup b).isNone=true
    ·rw [if_pos q,if_pos q,List.lookup_cons,List.lookup_cons]; simp
    ·rw [if_neg q,if_neg q]; rw [if_neg q] at ih; exact ih
   ·have e':(b == c)=false:=by simpa using e
    rw [List.lookup_cons,e']
    by_cases q:(cstTab.lookup c).isNone=true
    ·rw [if_pos q,List.lookup_cons,e']; exact ih
    ·rw [if_neg q]; exact ih
structure CstOk (K0:PySem.W.Frag):Prop where
 one:∀ p xs,(p,xs)∈cstTab->cstTab.lookup p=some xs
 tup:∀ p xs,cstTab.lookup p=some xs->∃ (od:Option Addr) (its:Array Value) (n:Nat) (sl:Array (Option Value)),K0.lookup p=some ⟨.type "tuple",od,.seq its n,sl⟩ /\ xs.length<=sizeLine /\ Vals xs its.toList
theorem CstOk.look {K0:PySem.W.Frag} (C:CstOk K0) {b:Addr} {o:Obj} (h:K0.lookup b=some o) (n:∀ its n,o.data≠.seq its n):(offC K0).lookup b=some o:=by
 rw [zcx]
 cases q:cstTab.lookup b with
 | none=>exact h
 | some xs=>
   obtain ⟨od,its,k,sl,e,_⟩:=C.tup b xs q
   rw [h] at e; cases e
   exact absurd rfl (n its k)
theorem CstOk.func {K0:PySem.W.Frag} (C:CstOk K0) {x qual:Str} {st:Stmt} {f:Addr} {fd:FuncData} (F:Fun K0 x qual st f fd):Fun (offC K0) x qual st f fd:=by
 obtain ⟨⟨oc,od,kV,doc,pm,an,cdv,ct,osl,e1,e2,e3⟩,kp⟩:=F
 have e2':=C.look e2 (fun its n z=>by cases z)
 refine ⟨⟨oc,od,kV,doc,pm,an,cdv,ct,osl,e1,e2',?_⟩,?_⟩
 ·unfold PySem.W.codeIn at e3 ⊢
  cases cdv with
  | ref c=>
    simp only at e3 ⊢
    cases q:K0.lookup c with
    | none=>rw [q] at e3; exact absurd e3 (by simp)
    | some ob=>
      obtain ⟨c1,c2,dt,c4⟩:=ob
      rw [q] at e3
      cases dt with
      | fields vs=>rw [C.look q (fun its n z=>by cases z)]; exact e3
      | _=>exact absurd e3 (by simp)
  | _=>exact e3
 ·unfold PySem.W.keepIn
  simp only [e2']
noncomputable def Hc (K0:PySem.W.Frag):Hp:=fun b=>match cstTab.lookup b with
 | some xs=>(K0.lookup b).map fun ob=>HO.frz ob (.tup xs)
 | none=>none
theorem zlZ {P:Program} {w:World} {K0:PySem.W.Frag} {mg mb:Str->Option Value} {CX:CXT} {k:Nat} {fa a:Addr} {fd:FuncData} {x:Str} {sp:Sp} {s₁:Shared} {vs:List Value} {ns:List Int} (C:CstOk K0)
  (KX:K0.In s₁.heap) (hns:s₁.heap.Ns mainGlobals mg) (hb:s₁.heap.Ns builtinsNs mb) (hbb:∀ x:Str,x≠"__name__"->mb x=bootBuiltins x) (hlim:s₁.heap.NoLimit) (hg:s₁.gens=#[])
  (ha:s₁.heap.get? a=some { cls:=.type "list",data:=.seq vs.toArray }) (hi:IntsAre vs ns) (hl:ns.length<=sizeLine) (hr:Room k callerA)
  (F:∀ base:Heap,(offC K0).In base->base.Ns mainGlobals mg->FnOk P w (offC K0) mg base CX k fa fd [x] sp) (hbind:∀ (s:Shared) (u:Value),BindsTo s fd ⟨[u],[]⟩ [(x,u)])
  (hsp:∀ H:Hp,LsD (offC K0) H a (ns.map V.int)->(∀ p xs,(p,xs)∈cstTab->TupT H p xs)->sp [.ref a] H (fun v _=>v=.bl true) fun _ _ _=>False)
  (hCX:∀ H e s',CX [] H s₁ (fun _ _ _=>False) e s'->False):
  codeAny (model P w) callerA (.call (.ref fa) ⟨[.ref a],[]⟩) (fun r s'=>r=.ok (.ret (.bool true)) /\ OldK s₁.heap s'.heap /\ s'.os=s₁.os /\ AllBare s'.gens) s₁:=by
 have rv:=zgo hi
 have lenV:=hi.length
 have core:∀ H:Hp,(∀ b,H b=none \/ ∃ o u,H b=some (.frz o u))->LsD (offC K0) H a (ns.map V.int)->HOk P w H s₁.heap->(∀ p xs,(p,xs)∈cstTab->TupT H p xs)->(∀ b o es ep,H b≠none->s₁.heap.get? b=some o->o.data≠.dict es ep)->(∀ b,H b≠none->(offC K0).lookup b=none)->
   codeAny (model P w) callerA (.call (.ref fa) ⟨[.ref a],[]⟩) (fun r s'=>r=.ok (.ret (.bool true)) /\ OldK s₁.heap s'.heap /\ s'.os=s₁.os /\ AllBare s'.gens) s₁:=by
  intro H hO hS hok hT hD hK
  have base_of:∀ {b:Addr} {o:Obj},s₁.heap.get? b=some o->H b=none->(hidT s₁.heap H).get? b=some o:=fun e n=>znh e n
  have noA:∀ {b:Addr} {o:Obj} {es:Array DictEntry} {ep:Nat},s₁.heap.get? b=some o->o.data=.dict es ep->H b=none:=fun {b o es ep} e d=>by
   cases q:H b with
   | none=>rfl
   | some u=>exact absurd d (hD b o es ep (by rw [q]; simp) e)
  have nsK:∀ {b:Addr} {m:Str->Option Value},s₁.heap.Ns b m->(hidT s₁.heap H).Ns b m:=fun {b m} ⟨o,es,ep,e,d,r⟩=>⟨o,es,ep,base_of e (noA e d),d,r⟩
  have hKb:(offC K0).In (hidT s₁.heap H):=fun b o e=>by
   have e0:K0.lookup b=some o:=by
    rw [zcx] at e
    split at e
    ·exact e
    ·cases e
   refine base_of (KX b o e0) ?_
   cases q:H b with
   | none=>rfl
   | some u=>rw [hK b (by rw [q]; simp)] at e; cases e
  have hM:Mod (offC K0) mg (hidT s₁.heap H):=⟨hKb,nsK hns,⟨mb,nsK hb,hbb⟩,let ⟨mc,h1,h2⟩:=hlim; ⟨mc,nsK h1,h2⟩⟩
  have e0:Env0 P w (offC K0) mg (hidT s₁.heap H) callerA [] s₁ H:=⟨rfl,hM,fun b o e=>zoI e,Nat.le_of_eq (zk8 _ _),trivial,fun b hb=>absurd (show b∈([]:List Addr) from hb) (by simp),hok,.of_eq hg⟩
  refine codeAny_mono ((F _ hKb (nsK hns)).run callerA [] s₁ H ⟨[.ref a],[]⟩ [.ref a] [.ref a] _ _ hr e0 (hbind s₁ (.ref a)) (.cons rfl .nil) (hsp H hS hT)) fun r s' h=>?_
  cases r with
  | error e=>exact (hCX H e s' h).elim
  | ok fl=>
    cases fl with
    | next=>exact False.elim h
    | brk=>exact False.elim h
    | cont=>exact False.elim h
    | ret u=>
      obtain ⟨v,H',os,bare,un,hok',r',q⟩:=h
      have q':v=.bl true:=q
      subst q'
      obtain rfl:u=Value.bool true:=r'
      refine ⟨rfl,OldK.of_keep fun b o e=>?_,os,bare⟩
      cases q:H b with
      | none=>exact un.keep b o e q (by intro z; exact absurd (show b∈([]:List Addr) from z) (by simp)) (by simp)
      | some u=>
        rcases hO b with z | ⟨ob,xs,z⟩
        ·rw [q] at z; cases z
        ·have z2:=un.frzs b ob _ z
         obtain ⟨e1,_⟩:=hok b _ z
         obtain ⟨e2,_⟩:=hok' b _ z2
         rw [e] at e1; cases e1
         exact e2
 have hc1:∀ b,Hc K0 b=none \/ ∃ ob xs od its n sl,Hc K0 b=some (.frz ob (.tup xs)) /\ cstTab.lookup b=some xs /\ K0.lookup b=some ob /\ ob=⟨.type "tuple",od,.seq its n,sl⟩ /\ xs.length<=sizeLine /\ Vals xs its.toList:=by
  intro b
  unfold Hc
  cases q:cstTab.lookup b with
  | none=>exact .inl rfl
  | some xs=>
    obtain ⟨od,its,n,sl,e,h1,h2⟩:=C.tup b xs q
    refine .inr ⟨_,xs,od,its,n,sl,?_,rfl,e,rfl,h1,h2⟩
    show (K0.lookup b).map _=_
    rw [e]; rfl
 have hcO:∀ (H:Hp) b ob u,Hc K0 b=some (.frz ob u)->ObjOk P w H s₁.heap b (.frz ob u):=fun H b ob u e=>by
  rcases hc1 b with z | ⟨ob',xs,od,its,n,sl,z,_,z2,rfl,z3,z4⟩
  ·rw [z] at e; cases e
  ·rw [z] at e; cases e
   have hget:=KX b _ z2
   exact ⟨hget,z3,its.toList,z4,_,hget,rfl,n,by simp⟩
 have hcT:∀ p xs,(p,xs)∈cstTab->∃ ob,Hc K0 p=some (.frz ob (.tup xs)):=fun p xs m=>by
  obtain ⟨od,its,n,sl,e,_⟩:=C.tup p xs (C.one p xs m)
  refine ⟨⟨.type "tuple",od,.seq its n,sl⟩,?_⟩
  unfold Hc
  rw [C.one p xs m]
  show (K0.lookup p).map _=_
  rw [e]; rfl
 have hcD:∀ b o es ep,Hc K0 b≠none->s₁.heap.get? b=some o->o.data≠.dict es ep:=fun b o es ep z e d=>by
  rcases hc1 b with q | ⟨ob',xs,od,its,n,sl,q,_,z2,rfl,_⟩
  ·exact z q
  ·have hget:=KX b _ z2
   rw [hget] at e; cases e; cases d
 have hcK:∀ b,Hc K0 b≠none->(offC K0).lookup b=none:=fun b z=>by
  rcases hc1 b with q | ⟨ob',xs,od,its,n,sl,q,q2,_⟩
  ·exact absurd q z
  ·rw [zcx,q2]; rfl
 have hcF:∀ b,Hc K0 b=none \/ ∃ o u,Hc K0 b=some (.frz o u):=fun b=>by
  rcases hc1 b with q | ⟨ob',xs,od,its,n,sl,q,_⟩
  ·exact .inl q
  ·exact .inr ⟨_,_,q⟩
 cases hk:K0.lookup a with
 | some o=>
   have e:=KX a o hk
   rw [ha] at e
   cases e
   have hno:cstTab.lookup a=none:=by
    cases q:cstTab.lookup a with
    | none=>rfl
    | some xs=>
      obtain ⟨od,its,n,sl,e,_⟩:=C.tup a xs q
      rw [hk] at e
      exact absurd (congrArg Obj.cls (Option.some.inj e)) (by intro z; exact absurd (Value.type.inj z) (by decide))
   refine core (Hc K0) hcF (.inr ⟨vs,_,by rw [zcx,hno]; exact hk,by rw [lenV]; exact hl,rv⟩) (fun b u z=>?_) (fun p xs m=>.inr (hcT p xs m)) hcD hcK
   rcases hcF b with q | ⟨ob,u',q⟩
   ·rw [q] at z; cases z
   ·rw [q] at z; cases z
    exact hcO _ b ob u' q
 | none=>
   have hno:cstTab.lookup a=none:=by
    cases q:cstTab.lookup a with
    | none=>rfl
    | some xs=>
      obtain ⟨od,its,n,sl,e,_⟩:=C.tup a xs q
      rw [hk] at e; cases e
   have hna:Hc K0 a=none:=by unfold Hc; rw [hno]
   refine core (fun b=>if b=a then some (.frz { cls:=.type "list",data:=.seq vs.toArray } (.lst (ns.map V.int))) else Hc K0 b) (fun b=>?_) (.inl (.inr ⟨{ cls:=.type "list",data:=.seq vs.toArray },if_pos rfl⟩)) (fun b u z=>?_) (fun p xs m=>?_) (fun b o es ep z e d=>?_) fun b z=>?_
   ·by_cases hb:b=a
    ·exact .inr ⟨_,_,if_pos hb⟩
    ·rcases hcF b with q | ⟨ob,u,q⟩
     ·exact .inl ((if_neg hb).trans q)
     ·exact .inr ⟨ob,u,(if_neg hb).trans q⟩
   ·by_cases hb:b=a
    ·have z':=(if_pos hb).symm.trans z
     cases z'
     subst hb
     exact ⟨ha,by rw [List.length_map]; exact hl,vs,_,rv,ha⟩
    ·have z':=(if_neg hb).symm.trans z
     rcases hcF b with q | ⟨ob,u',q⟩
     ·rw [q] at z'; cases z'
     ·rw [q] at z'; cases z'
      exact hcO _ b ob u' q
   ·obtain ⟨ob,q⟩:=hcT p xs m
    refine .inr ⟨ob,?_⟩
    have hb:p≠a:=fun e=>by rw [e,hna] at q; cases q
    exact (if_neg hb).trans q
   ·by_cases hb:b=a
    ·subst hb
     rw [ha] at e; cases e; cases d
    ·exact hcD b o es ep (fun q=>z ((if_neg hb).trans q)) e d
   ·by_cases hb:b=a
    ·subst hb
     rw [zcx,hno]; exact hk
    ·exact hcK b fun q=>z ((if_neg hb).trans q)
theorem zm2 {l:PySem.W.OpenLaw} {n k:Nat} {q:Program} {loose:List Str} {XP:(Str->Option Value)->Heap->Prop} {YP:World->Heap->Prop} {d:DefRec} {K:Params->PySem.W.Frag} {CX:World->CXT} {sp:World->Sp} {x:Str}
  (hn:l.most=some n) (hn2:n<=sizeLine) (hdf:d.params.defaults=[]) (hr:Room k callerA) (hY:∀ (w:World) (h:Heap),YP w h->(K w.params).In h)
  (F:∀ (w:World) (mg:Str->Option Value) (fa:Addr) (h:Heap),(K w.params).In h->h.Ns mainGlobals mg->mg d.name=some (.ref fa)->CstOk (K w.params) /\
   ∃ fd:FuncData,(∀ (s:Shared) (u:Value),BindsTo s fd ⟨[u],[]⟩ [(x,u)]) /\ ∀ base:Heap,(offC (K w.params)).In base->base.Ns mainGlobals mg->FnOk l.prog w (offC (K w.params)) mg base (CX w) k fa fd [x] (sp w))
  (hsp:∀ (w:World) (H:Hp) (a:Addr) (ns:List Int),ns.length<=n->LsD (offC (K w.params)) H a (ns.map V.int)->(∀ p xs,(p,xs)∈cstTab->TupT H p xs)->sp w [.ref a] H (fun v _=>v=.bl true) fun _ _ _=>False)
  (hCX:∀ (w:World) (H:Hp) (s:Shared) (e:Value) (s':Shared),CX w [] H s (fun _ _ _=>False) e s'->False):
  PySem.W.WalkO q loose XP YP l.row.toRowW d [] (fun f vs=>PySem.call f vs):=by
 refine Att.zh6 hn hdf fun w s₀ s₁ mg mb fa o pm cd doc a vs ns G Y ho hd hcd hmg hobj hints hlen hg=>?_
 have KX:=hY w _ Y
 obtain ⟨C,fd,hb,hF⟩:=F w mg fa _ KX G.T.g hmg
 exact zlZ C KX G.T.g G.T.b G.T.builtins G.T.nolimit hg hobj hints (Nat.le_trans hlen hn2) hr hF hb (fun H hS hT=>hsp w H a ns hlen hS hT) fun H e s'=>hCX w H s₁ e s'
end L2
namespace L2
open PySem PySem.Spec PyProof.Rows
noncomputable def dInT (neg:Bool):D->D->Option D:=fun x y=>match y with
 | .list l=>if (SeqAt.shaped x && l.all SeqAt.shaped)=true then some (.bool ((l.any fun z=>PyData.eqv z x) != neg)) else none
 | .tuple l=>if (SeqAt.shaped x && l.all SeqAt.shaped)=true then some (.bool ((l.any fun z=>PyData.eqv z x) != neg)) else none
 | _=>none
noncomputable def rInD (K:PySem.W.Frag) (neg:Bool):R2:=fun x y H Q=>∃ dy ds dx,HD K H y dy /\ (dy=.list ds \/ dy=.tuple ds) /\ HD K H x dx /\ SeqAt.shaped dx=true /\ ds.all SeqAt.shaped=true /\ Q (.bl ((ds.any fun z=>PyData.eqv z dx) != neg)) H
theorem zb4 {ds:List D} (h:ds.all SeqAt.shaped=true):PyData.canLayAll0 ds=true:=by
 induction ds with
 | nil=>rfl
 | cons d ds ih=>
   rw [List.all_cons,Bool.and_eq_true] at h
   have h1:=h.1
   unfold SeqAt.shaped at h1
   rw [Bool.and_eq_true] at h1
   rw [PyData.canLayAll0,h1.1,ih h.2]
   rfl
section
variable {X:Cx}
theorem zfz {k:Nat} {ds:List D} {dx:D} (hr:Room k X.A) (sx:SeqAt.shaped dx=true):X.A.units + 1 + min (PyData.depthAll ds) dx.depth < cLine:=by
 unfold SeqAt.shaped at sx
 rw [Bool.and_eq_true,decide_eq_true_eq] at sx
 have:=hr.un
 have:=sx.2
 omega
theorem zp0 {k:Nat} (hr:Room k X.A):OpR X (compareOp .In) (rInD X.K false):=by
 intro pins s σ H x y v u Q I rx ry h
 obtain ⟨dy,ds,dx,hy,hd,hx,sx,sds,q⟩:=h
 obtain ⟨as,r1⟩:=hx.reads I rx (zau sx)
 rw [Bool.bne_false] at q
 rcases hd with rfl | rfl
 ·obtain ⟨bs,r2⟩:=hy.reads I ry (by rw [PyData.canLay0]; exact zb4 sds)
  exact SeqAt.in_list_reads r2 r1 (zb4 sds) (zau sx) (zfz hr sx) ⟨.bl _,H,I,rfl,q⟩
 ·obtain ⟨bs,r2⟩:=hy.reads I ry (by rw [PyData.canLay0]; exact zb4 sds)
  exact SeqAt.in_tuple_reads r2 r1 (zb4 sds) (zau sx) (zfz hr sx) ⟨.bl _,H,I,rfl,q⟩
theorem zg1 {k:Nat} (hr:Room k X.A):OpR X (compareOp .NotIn) (rInD X.K true):=by
 intro pins s σ H x y v u Q I rx ry h
 obtain ⟨dy,ds,dx,hy,hd,hx,sx,sds,q⟩:=h
 obtain ⟨as,r1⟩:=hx.reads I rx (zau sx)
 rw [Bool.bne_true] at q
 rcases hd with rfl | rfl
 ·obtain ⟨bs,r2⟩:=hy.reads I ry (by rw [PyData.canLay0]; exact zb4 sds)
  exact SeqAt.notIn_list_reads r2 r1 (zb4 sds) (zau sx) (zfz hr sx) ⟨.bl _,H,I,rfl,q⟩
 ·obtain ⟨bs,r2⟩:=hy.reads I ry (by rw [PyData.canLay0]; exact zb4 sds)
  exact SeqAt.notIn_tuple_reads r2 r1 (zb4 sds) (zau sx) (zfz hr sx) ⟨.bl _,H,I,rfl,q⟩
end
set_option tactic.hygienic true in
theorem zh3 {K:PySem.W.Frag} {neg:Bool}:Imp2 K (rInD K neg) (dInT neg):=by
 intro A H x y dx dy d Q al hx hy e q
 unfold dInT at e
 cases dy with
 | list l=>
   simp only at e
   split at e
   ·rename_i c
    rw [Bool.and_eq_true] at c
    cases e
    exact ⟨_,l,dx,hy.isD,.inl rfl,hx.isD,c.1,c.2,q _ H (Same.refl H) (.bl _)⟩
   ·cases e
 | tuple l=>
   simp only at e
   split at e
   ·rename_i c
    rw [Bool.and_eq_true] at c
    cases e
    exact ⟨_,l,dx,hy.isD,.inr rfl,hx.isD,c.1,c.2,q _ H (Same.refl H) (.bl _)⟩
   ·cases e
 | _=>cases e
end L2
namespace L2
open PySem PySem.Spec PyProof.Rows
set_option tactic.hygienic true in
theorem zld (gi:DS->Option (List D)) (ix:List Nat) (ge:DS->Option D):gComp gi ix ge=gCompL gi 1 ix (gName' 0) (fun _=>some true) ge:=by
 funext δ
 unfold gComp gCompL
 cases gi δ with
 | none=>rfl
 | some ds=>
   rw [Option.bind_some,Option.bind_some]
   split
   ·induction ds with
    | nil=>rfl
    | cons d ds ih=>
      rename_i h
      rw [mapD,fltD,ih (by rw [List.length_cons] at h; omega)]
      show _=Option.bind (Option.map some (ge (some d :: captD ix δ))) _
      cases ge (some d :: captD ix δ) <;> rfl
   ·rfl
section
variable {X:Cx} {O:List Nat} {gi:DS->Option (List D)} {ix:List Nat} {ge:DS->Option D}
theorem PE.asC {e:Expr} (h:PE X e (tN X.K O (gCompL gi 1 ix (gName' 0) (fun _=>some true) ge))):PE X e (tN X.K O (gComp gi ix ge)):=by rw [zld]; exact h
theorem PS.asC {st:Stmt} {i:Nat} (h:PS X st (tAsg (tN X.K O (gCompL gi 1 ix (gName' 0) (fun _=>some true) ge)) (gName i))):PS X st (tAsg (tN X.K O (gComp gi ix ge)) (gName i)):=by rw [zld]; exact h
end
end L2
namespace L2
open PySem PySem.Spec PyProof.Rows PySem.Calls
set_option maxRecDepth 100000
section
variable {prog:Program} {w:World} {A:Around} {E:Value->Shared->Prop} {s:Shared}
end
section
variable {X:Cx} {O:List Nat} {a:Expr} {ge:DS->Option D} {p1 p2 q1 q2:Pos} {ta:TA}
end
end L2
namespace L2
open PySem PySem.Spec PyProof.Rows
section
variable {X:Cx} {O:List Nat} {tg e o y:Expr} {ge go:DS->Option D} {apos cpos:Pos}
end
end L2
namespace L2
open PySem PySem.Spec PySem.W PyProof.Rows
section
variable {M:Model} {A:Around} {E:Value->Shared->Prop} {s:Shared} {base:Heap} {env:Env} {outer:List Env} {L e:Addr} {cls a0:Value}
theorem zfc {α:Type} {t:Sem α} {Q1:α->Shared->Prop} (h1:wpAny M A t Q1 E s):wpAny M A t (fun a s=>Q1 a s /\ True) (fun v s=>E v s /\ True) s:=wpAny_mono h1 (fun _ _ h=>⟨h,trivial⟩) fun _ _ h=>⟨h,trivial⟩
theorem zlt {Q:Unit->Shared->Prop} (hfr:A.frames=some (env :: outer)) (hf:env.frame=some L) (hfl:Heap.FlyingW base (env :: outer) e cls a0 s.heap) (_:NoCtx s.heap e)
  (hQ:∀ h',Heap.HeldW base (env :: outer) e cls a0 L h'->NoCtx h' e->s.heap.UpToSlots h'->Q () { s with heap:=h' }):wpAny M A (noteFrame (.ref e) env) Q E s:=
 wpAny_looks_onW hfr hf hfl fun h2 k1 k2=>hQ h2 k1 trivial k2
theorem landsX {l:List Env} {Q:Unit->Shared->Prop} (hh:Heap.HeldW base l e cls a0 L s.heap) (_:NoCtx s.heap e) (hQ:∀ h',Heap.FlyingW base l e cls a0 h'->NoCtx h' e->s.heap.UpToSlots h'->Q () { s with heap:=h' }):wpAny M A (setFlight (.ref e) none) Q E s:=
 wpAny_landsW hh fun h2 k1 k2=>hQ h2 k1 trivial k2
theorem zgM {l:List Env} {Q:Unit->Shared->Prop} (hh:Heap.FlyingW base l e cls a0 s.heap) (_:NoCtx s.heap e) (hQ:∀ h',Heap.FlyingW base l e cls a0 h'->NoCtx h' e->s.heap.UpToSlots h'->Q () { s with heap:=h' }):wpAny M A (setFlight (.ref e) none) Q E s:=
 lands_againW hh fun h2 k1 k2=>hQ h2 k1 trivial k2
end
end L2
namespace L2
open PySem PySem.Spec PySem.W PyProof.Rows
theorem ObjOk.there {P:Program} {w:World} {H:Hp} {h:Heap} {a:Addr} {o:HO} (x:ObjOk P w H h a o):∃ ob,h.get? a=some ob:=by
 induction o with
 | lst xs=>obtain ⟨_,_,_,_,e⟩:=x; exact ⟨_,e⟩
 | tup xs=>obtain ⟨_,_,_,o,e,_⟩:=x; exact ⟨_,e⟩
 | dK kvs=>obtain ⟨_,_,_,_,o,es,ep,e,_⟩:=x; exact ⟨_,e⟩
 | dT kvs=>obtain ⟨_,_,_,_,o,es,ep,e,_⟩:=x; exact ⟨_,e⟩
 | set S n=>obtain ⟨_,_,_,_,e,_⟩:=x; exact ⟨_,e⟩
 | ins C dx fs=>obtain ⟨_,_,_,e,_⟩:=x; exact ⟨_,e⟩
 | own y=>exact x
 | xd fs=>obtain ⟨_,⟨o,es,ep,e,_⟩,_⟩:=x; exact ⟨_,e⟩
 | met f y=>exact ⟨_,x⟩
 | rng lo hi=>obtain ⟨_,_,_,e⟩:=x; exact ⟨_,e⟩
 | frz ob u ih=>exact ⟨_,x.1⟩
 | tbl ps=>exact ⟨_,x⟩
 | ext φ=>exact x.2.1
noncomputable def Cov (g:Heap) (l:List Env) (H:Hp) (B:Heap):Prop:=∀ b,b∉frs l->(H b≠none \/ ∃ o0,g.get? b=some o0)->∃ o,B.get? b=some o
theorem Cov.at {g h B:Heap} {l:List Env} {H:Hp} (c:Cov g l H B) (st:B.StaysIn h) {b:Addr} {o:Obj} (q:h.get? b=some o) (n:b∉frs l) (i:H b≠none \/ ∃ o0,g.get? b=some o0):B.get? b=some o:=by
 obtain ⟨o',e⟩:=c b n i
 have:=st b o' e
 rw [q] at this
 cases this
 exact e
theorem zjT {l:List Env} {H H1:Hp} {g h h' B base:Heap} (u:Un (frs l) [] H H1 g h) (c:Cov g l H1 B) (st:B.StaysIn h) (st':B.StaysIn h') (up:h.UpToSlots h') (fr:h.FunFrames base l):Un (frs l) [] H H1 g h' where
 keep:=fun b o q n hb hx=>st' b o (c.at st (u.keep b o q n hb hx) hb (.inr ⟨_,q⟩))
 slot:=fun b o q n hb hx=>by
  obtain ⟨sl,e⟩:=u.slot b o q n hb hx
  obtain ⟨_,o1,ho1,hnf⟩:=fr.mem hb
  rw [e] at ho1
  cases ho1
  obtain ⟨sl',e'⟩:=up b _ e hnf
  exact ⟨sl',e'⟩
 free:=u.free
 there:=fun b o q hx=>by
  by_cases hb:b∈frs l
  ·obtain ⟨_,o1,ho1,hnf⟩:=fr.mem hb
   obtain ⟨sl',e'⟩:=up b _ ho1 hnf
   exact ⟨_,e'⟩
  ·obtain ⟨o',e⟩:=u.there b o q hx
   exact ⟨o',st' b o' (c.at st e hb (.inr ⟨_,q⟩))⟩
 tups:=u.tups
 frzs:=u.frzs
 tbls:=u.tbls
theorem zhn {P:Program} {w:World} {l:List Env} {H:Hp} {g h h' B:Heap} (x:HOk P w H h) (c:Cov g l H B) (st:B.StaysIn h) (st':B.StaysIn h') (nf:∀ b∈frs l,H b=none):HOk P w H h':=fun a o e=>by
 refine (x a o e).stay (fun b u hb q=>?_) (fun _ q=>q) fun _ _ q=>q
 have ht:H b≠none:=by
  rcases hb with rfl | hb
  ·rw [e]; exact fun z=>nomatch z
  ·rw [hb]; exact fun z=>nomatch z
 exact st' b u (c.at st q (fun z=>ht (nf b z)) (.inl ht))
noncomputable def CXr (P:Program) (w:World):CXT:=fun outer H s E e s'=>∃ (a t C:Addr) (B:Heap) (H1:Hp),e=.ref a /\ s'.os=s.os /\ AllBare s'.gens /\ Un (frs outer) [] H H1 s.heap s'.heap /\ HOk P w H1 s'.heap /\
 s.heap.get? a=none /\ H1 a=none /\ Cov s.heap outer H1 B /\ Heap.FlyingW B outer a (.ref C) (.ref t) s'.heap /\ NoCtx s'.heap a /\ E (.ref C) none H1
section
variable {P:Program} {w:World} {K:PySem.W.Frag} {mg:Str->Option Value} {base:Heap} {N:List Str} {qual:Str} {scope:Scope} {f:Addr} {cd:Value} {A:Around} {outer:List Env} {s:Shared} {H:Hp} {E:XK}
theorem Inv.tracked {X:Cx} {pins:List (Addr×Obj)} {σ:St} {H1:Hp} {s1:Shared} (I:Inv X pins σ H1 s1) {b:Addr} (n:H1 b≠none):∃ o,s1.heap.get? b=some o:=by
 cases q:H1 b with
 | none=>exact absurd q n
 | some o=>exact (I.hok b o q).there
theorem zo9 {pins:List (Addr×Obj)} {σ:St} {H1:Hp} {s1:Shared} {h':Heap} {a C:Addr} {vs:List Value} (I:Inv (cxOf (CXr P w) P w K mg base N qual scope f cd A outer s H E) pins σ H1 s1)
  (hx:Heap.MadeExcOf s1.heap h' a (.ref C) vs) (hE:E (.ref C) none H1):(cxOf (CXr P w) P w K mg base N qual scope f cd A outer s H E).xe (.ref a) { s1 with heap:=h' }:=by
 have st:(hideAll s1.heap (frs (envOfC qual scope s.heap.objs.size f cd :: outer))).StaysIn s1.heap:=fun b o q=>of_hideAll _ q
 have cov0:∀ b,b∉frs outer->(H1 b≠none \/ ∃ o0,s.heap.get? b=some o0)->∃ o,(hideAll s1.heap (frs (envOfC qual scope s.heap.objs.size f cd :: outer))).get? b=some o:=fun b nb i=>by
  have hb:b∉frs (envOfC qual scope s.heap.objs.size f cd :: outer):=fun z=>by
   rcases List.mem_cons.mp (I.stkSub b z) with e | z
   ·rcases i with i | ⟨o0,i⟩
    ·exact i (by rw [e]; exact I.free)
    ·exact absurd (Nat.lt_of_lt_of_le (Heap.lt_size i) (by rw [e]; exact I.ok.above)) (Nat.lt_irrefl _)
   ·exact nb z
  have ex:∃ o,s1.heap.get? b=some o:=by
   rcases i with i | ⟨o0,i⟩
   ·exact I.tracked i
   ·exact I.base.there b o0 i (fun z=>nomatch z)
  obtain ⟨o,e⟩:=ex
  exact ⟨o,hideAll_get _ e hb⟩
 have fh:=funFrames_hide I.stack fun env he b hb=>List.mem_filterMap.mpr ⟨env,he,hb⟩
 refine wpAny_mono (zfc (wpAny_leaves_madeW (E:=fun _ _=>False) (Q:=fun _ s2=>∃ h2 t,s2={ s1 with heap:=h2 } /\ Heap.FlyingW (hideAll s1.heap (frs (envOfC qual scope s.heap.objs.size f cd :: outer))) outer a (.ref C) (.ref t) h2 /\ Heap.UpToSlots h' h2)
  (h:=s1.heap) I.ok.frames rfl st fh hx fun h2 t fly _ _ up=>⟨h2,t,rfl,fly,up⟩)) (fun _ s2 ⟨⟨h2,t,e2,fly,up⟩,nc⟩=>?_) fun _ _ z=>z.1.elim
 subst e2
 have up2:s1.heap.UpToSlots h2:=(Heap.UpToSlots.of_keeps hx.keeps).trans up
 refine ⟨a,t,C,_,H1,rfl,I.os,I.bare,zjT I.base cov0 st fly.1 up2 I.funs,zhn I.hok cov0 st fly.1 (fun b hb=>?_),?_,?_,cov0,fly,nc,hE⟩
 ·obtain ⟨_,o,ho,_⟩:=I.ok.funs.mem hb
  exact I.base.free b o ho (I.ok.frf b hb) fun z=>nomatch z
 ·cases q:s.heap.get? a with
  | none=>rfl
  | some o=>
    obtain ⟨o',e⟩:=I.base.there a o q (fun z=>nomatch z)
    rw [hx.new] at e; cases e
 ·cases q:H1 a with
  | none=>rfl
  | some o=>
    obtain ⟨o',e⟩:=I.tracked (b:=a) (by rw [q]; exact fun z=>nomatch z)
    rw [hx.new] at e; cases e
theorem zeB:Passes (CXr P w) (cxOf (CXr P w) P w K mg base N qual scope f cd A outer s H E) E:=by
 rintro pins σ H0 s0 e s' I ⟨a,t,C,B,H1,rfl,os,bare,un,hok,na,ta,cov,fly,nc0,hE⟩
 have I':=I.call' (ch:=[]) os un hok bare (fun b z=>nomatch z)
 have cov0:Cov s.heap outer H1 B:=fun b nb i=>by
  refine cov b (fun z=>?_) ?_
  ·rcases List.mem_cons.mp (I.stkSub b z) with e | z
   ·rcases i with i | ⟨o0,i⟩
    ·exact i (by rw [e]; exact I'.free)
    ·exact absurd (Nat.lt_of_lt_of_le (Heap.lt_size i) (by rw [e]; exact I.ok.above)) (Nat.lt_irrefl _)
   ·exact nb z
  ·rcases i with i | ⟨o0,i⟩
   ·exact .inl i
   ·exact .inr (I.base.there b o0 i fun z=>nomatch z)
 refine wpAny_mono (zfc (wpAny_leaves_onW (E:=fun _ _=>False) (Q:=fun _ s2=>∃ h2,s2={ s' with heap:=h2 } /\ Heap.FlyingW B outer a (.ref C) (.ref t) h2 /\ s'.heap.UpToSlots h2) I.ok.frames rfl fly fun h2 fly2 up=>⟨h2,rfl,fly2,up⟩)) (fun _ s2 ⟨⟨h2,e2,fly2,up⟩,nc⟩=>?_) fun _ _ z=>z.1.elim
 subst e2
 refine ⟨a,t,C,B,H1,rfl,I'.os,I'.bare,zjT I'.base cov0 fly.1 fly2.1 up I'.funs,zhn I'.hok cov0 fly.1 fly2.1 (fun b hb=>?_),?_,ta,cov0,fly2,nc,hE⟩
 ·obtain ⟨_,o,ho,_⟩:=I'.ok.funs.mem hb
  exact I'.base.free b o ho (I'.ok.frf b hb) fun z=>nomatch z
 ·cases q:s.heap.get? a with
  | none=>rfl
  | some o=>
    obtain ⟨o',e⟩:=I.base.there a o q (fun z=>nomatch z)
    rw [na] at e; cases e
structure ExC (K:PySem.W.Frag) (mg:Str->Option Value) (x:Str) (C:Addr) (bm tl:List Value) (newId:String):Prop where
 bound:mg x=some (.ref C)
 obj:∃ (n:Addr) (nm q:Str) (bs:List Value) (hdct:Bool) (sn:List Str) (sub:List Value) (ab:Bool) (col:Option Bool) (dd:Option Addr) (k0 k1 k2 k3 k5:Option Value) (mN:Str->Option Value),
  mN "__init__"=none /\ ∀ h:Heap,K.In h->h.get? C=some (excClassObj nm q C n bs tl hdct sn sub ab col dd k0 k1 k2 k3 k5 newId) /\ h.Ns n mN /\ OwnTail h bm tl
theorem zm3 {x:Str} {C:Addr} {bm tl bmN:List Value} {newId nid initId inN B Bn:String} {e₀:Expr} {rest:List Expr} {np cpos pos:Pos} {t:TA} (hC:ExC K mg x C bm tl newId) (Fn:ExcBaseFacts Bn newId inN bmN) (hBn:bm.contains (.type Bn)=true)
  (FB:ExcBaseFacts B nid initId bm) (ha:PA (cxOf (CXr P w) P w K mg base N qual scope f cd A outer s H E) (e₀ :: rest) t) (hg:Gl (cxOf (CXr P w) P w K mg base N qual scope f cd A outer s H E) x:=by rfl)
  (he:starEach (e₀ :: rest) (envOfC qual scope s.heap.objs.size f cd)=(false,eval e₀ (envOfC qual scope s.heap.objs.size f cd)) :: starEach rest (envOfC qual scope s.heap.objs.size f cd):=by rfl)
  (hplain:(backTo cpos (starEach rest (envOfC qual scope s.heap.objs.size f cd))).any (·.1)=false:=by rfl) (hd:(x == ("__debug__":Str))=false:=by decide):
  PS (cxOf (CXr P w) P w K mg base N qual scope f cd A outer s H E) (.Raise (some (.Call (.Name x np) (e₀ :: rest) [] cpos)) none pos) (fun _ σ H0=>t σ H0 fun vs H1=>vs.length<=sizeLine /\ E (.ref C) none H1):=by
 intro pins s1 σ H1 D I h
 obtain ⟨n,nm,q,bs,hdct,sn,sub,ab,col,dd,k0,k1,k2,k3,k5,mN,hni,all⟩:=hC.obj
 obtain ⟨_,_,T⟩:=all _ I.kIn
 refine wpAny_Raise_call_subU (C:=C) (nm:=nm) (q:=q) (N:=n) (bs:=bs) (bm:=tl) (hdct:=hdct) (sn:=sn) (sub:=sub) (ab:=ab) (col:=col) (dd:=dd) (k0:=k0) (k1:=k1) (k2:=k2) (k3:=k3) (k5:=k5)
  Fn hBn FB (mN:=mN) (T.hasType FB.hasBase) (I.ok.hd rfl) ?_ hni (zeq I hg hC.bound ⟨rfl,?_⟩ hd)
 ·show (backTo cpos (starEach (e₀ :: rest) (envOfC qual scope s.heap.objs.size f cd))).any (·.1)=false
  rw [he]; show (false || (backTo cpos (starEach rest (envOfC qual scope s.heap.objs.size f cd))).any (·.1))=false; rw [hplain]; rfl
 ·show wpAny _ _ (evalArgs (.ref C) true (backTo cpos (starEach (e₀ :: rest) (envOfC qual scope s.heap.objs.size f cd))) []) _ _ s1
  have hp:=ha cpos pins s1 σ H1 _ I h
  have hp':wpAny (model P w) (A.deeper (envOfC qual scope s.heap.objs.size f cd)) (spliced (backTo cpos (starEach (e₀ :: rest) (envOfC qual scope s.heap.objs.size f cd)))) _ _ s1:=hp
  rw [he] at hp' ⊢
  refine Calls.evalArgs_plain (wpAny_mono hp' (fun us s2 ⟨vs,H2,I2,r2,hz,hE⟩=>⟨rfl,by show us.length<=_; rw [<- r2.length]; exact hz,(all _ I2.kIn).1,(all _ I2.kIn).2.1,(all _ I2.kIn).2.2,fun h' e hm=>zo9 I2 hm hE⟩) fun _ _ y=>y)
end
noncomputable abbrev Cx.inX (X:Cx) (a:Addr):Cx:={ X with A:=X.A.mark (some (.ref a)),calm:=false,xe:=fun _ _=>False }
theorem Cx.Ok.inX {X:Cx} (ok:X.Ok) (a:Addr):(X.inX a).Ok:=
 ⟨ok.mod,ok.kind,ok.glob,ok.blt,ok.above,ok.inj,ok.has,ok.cab,(fun z=>nomatch z),ok.frames,ok.stk,ok.exf,ok.bs,ok.bsz,ok.noex,ok.exfs,ok.funs,ok.frf⟩
theorem Inv.inX {X:Cx} {pins:List (Addr×Obj)} {σ:St} {H:Hp} {s:Shared} (I:Inv X pins σ H s) (a:Addr):Inv (X.inX a) pins σ H s:=⟨I.ok.inX a,I.os,I.bare,I.base,I.loc,I.cell,I.free,I.freeC,I.pin,I.hok,I.len⟩
theorem Inv.outX {X:Cx} {pins:List (Addr×Obj)} {σ:St} {H:Hp} {s:Shared} {a:Addr} (I:Inv (X.inX a) pins σ H s) (ok:X.Ok):Inv X pins σ H s:=⟨ok,I.os,I.bare,I.base,I.loc,I.cell,I.free,I.freeC,I.pin,I.hok,I.len⟩
theorem Inv.trackX {X:Cx} {pins:List (Addr×Obj)} {σ σ':St} {H0 H1:Hp} {s0 s1:Shared} {a:Addr} {o:HO} (I:Inv X pins σ H1 s1) (I0:Inv X pins σ' H0 s0) (na:s0.heap.get? a=none) (ta:H1 a=none) (new:ObjOk X.prog X.w (upd H1 a o) s1.heap a o):
  Inv X pins σ (upd H1 a o) s1:=by
 have ne:∀ b ob,s0.heap.get? b=some ob->b≠a:=fun b ob q e=>by rw [e,na] at q; cases q
 have nt:∀ b u,H1 b=some u->b≠a:=fun b u q e=>by rw [e,ta] at q; cases q
 have nL:X.env.locals≠a:=by
  obtain ⟨m,⟨ol,_,_,e,_⟩,_⟩:=I0.loc
  exact ne _ _ e
 refine ⟨I.ok,I.os,I.bare,⟨I.base.keep,I.base.slot,fun b ob q n hx=>?_,I.base.there,fun b xs q=>?_,fun b ob u q=>?_,fun b ps q=>?_⟩,I.loc,I.cell,?_,fun x c e=>?_,fun p hp=>?_,fun b u q=>?_,I.len⟩
 ·obtain ⟨o',e⟩:=I0.base.there b ob q hx
  rw [zH (ne b o' e)]; exact I.base.free b ob q n hx
 ·have:=I.base.tups b xs q
  rw [zH (nt _ _ this)]; exact this
 ·have:=I.base.frzs b ob u q
  rw [zH (nt _ _ this)]; exact this
 ·obtain ⟨more,this⟩:=I.base.tbls b ps q
  exact ⟨more,by rw [zH (nt _ _ this)]; exact this⟩
 ·rw [zH nL]; exact I.free
 ·obtain ⟨v,oc,e1,_⟩:=I0.cell x c e
  rw [zH (ne _ _ e1)]; exact I.freeC x c e
 ·obtain ⟨e,n,r1,r2,r3⟩:=I.pin p hp
  exact ⟨e,by rw [zH (ne _ _ (I0.pin p hp).1)]; exact n,r1,r2,r3⟩
 ·by_cases hb:b=a
  ·subst hb; rw [z8] at q; cases q; exact new
  ·rw [zH hb] at q
   refine (I.hok b u q).stay (fun _ _ _ z=>z) (fun c z=>by rw [zH (nt _ _ z)]; exact z) fun c xs z=>z.ne (by rcases z with z | ⟨_,z⟩ <;> exact nt _ _ z)
theorem Inv.forget {X:Cx} {pins:List (Addr×Obj)} {σ:St} {H:Hp} {s:Shared} {h':Heap} {tk:Nat} {m:Str->Option Value} (I:Inv X pins σ H s) (hn:h'.Ns X.env.locals m) (hs:Heap.SameBut X.env.locals s.heap h'):
  Inv X pins (List.replicate X.N.length none) H { s with heap:=h',toks:=tk }:=by
 have cne:=I.cne
 have lt:∀ b o,X.s₀.heap.get? b=some o->b≠X.env.locals:=fun b o e=>Nat.ne_of_lt (Nat.lt_of_lt_of_le (Heap.lt_size e) I.ok.above)
 refine ⟨I.ok,I.os,I.bare,⟨fun b o e n hb hx=>(hs.2 b (lt b o e)).trans (I.base.keep b o e n hb hx),fun b o e n hb hx=>?_,I.base.free,fun b o e hx=>?_,I.base.tups,I.base.frzs,I.base.tbls⟩,⟨m,hn,fun j y v e1 e2 _=>?_⟩,fun y c e=>?_,I.free,I.freeC,fun p hp=>?_,fun b u q=>?_,by simp⟩
 ·obtain ⟨sl,e1⟩:=I.base.slot b o e n hb hx
  exact ⟨sl,(hs.2 b (lt b o e)).trans e1⟩
 ·obtain ⟨o',e1⟩:=I.base.there b o e hx
  exact ⟨o',(hs.2 b (lt b o e)).trans e1⟩
 ·rw [List.getElem?_replicate] at e2
  split at e2 <;> cases e2
 ·obtain ⟨w',z⟩:=I.cell y c e
  exact ⟨w',z.sameBut hs (cne y c e)⟩
 ·obtain ⟨e,n,ne,nf,d⟩:=I.pin p hp
  exact ⟨(hs.2 p.1 ne).trans e,n,ne,nf,d⟩
 ·refine (I.hok b u q).stay (fun c w' hc z=>(hs.2 c ?_).trans z) (fun _ z=>z) fun _ _ z=>z
  rintro rfl
  rcases hc with e | hc
  ·rw [<- e,I.free] at q; cases q
  ·rw [I.free] at hc; cases hc
section
variable {X:Cx} {k:Nat} {f:Addr} {fd:FuncData} {ps:List Str} {sp:Sp} {g T n:Str} {gp cpos epos tp hpos pos:Pos} {e:Expr} {es:List Expr} {ta:TA} {b₀:Stmt} {suite:List Stmt} {i:Nat} {Tv:Value} {ts:Addr->TS}
end
end L2
namespace L2
open PySem PySem.Spec PySem.W PyProof.Rows PySem.Builtin PySem.Builtin.ObjectAttr PySem.Builtin.Getset_descriptor
section
variable {prog:Program} {w:World} {A:Around} {E:Value->Shared->Prop} {h:Heap} {g:Array GenState} {d:Drawn} {t:Nat} {os:OsState} {a C:Addr} {o:Obj} {K:Frag}
theorem zom {R:Result->Shared->Prop} (X:K.In h) (hx:h.get? a=some o) (hc:o.cls=.ref C) (hs:subIn K (.ref C) (.type "object")=some true) (hq:R (.ok (.ret (.ref C))) ⟨h,g,d,t,os⟩):
  codeAny (model prog w) A (.call (.builtin "getset_descriptor.__get__") ⟨[.builtin "object.__class__",.ref a,.ref C],[]⟩) R ⟨h,g,d,t,os⟩:=by
 have hT5:(⟨h,g,d,t,os⟩:Shared).TypeIs (.builtin "object.__class__") "getset_descriptor":=F.typeOf_object_class
 have L1:Looks (model prog w) h (isSubtype (.ref C) (.type "object")) true:=looks_subIn X hs
 refine codeAny_call_builtin KF.slot_gs.plain KF.entry_gs (KF.slot_gs.check _ _ _ _ _ _ _ _ KF.type_class (KF.args_gs _ _ _) ?_)
 have L0:Looks (model prog w) h (typeOf (.ref a)) (.ref C):=by rw [<- hc]; exact (Looks.ld hx).andThen Looks.now
 unfold Builtin.«getset_descriptor.__get__» descrGet
 rw [dga_obj]
 refine wpAny_bind (wpAny_pure ?_)
 unfold descrGetter descrCheckInstance descrNameAndClass isInstance
 simp only [KF.owner_class]
 repeat lk
 refine ⟨Code.quiet_builtin _ (by decide +kernel),codeAny_builtin KF.entry_class ?_⟩
 unfold Builtin.«object.__class__» shownTypeOf
 repeat lk
 exact hq
theorem zlM {tk:Tok} {Q:Fin->Shared->Prop} (X:K.In h) (hx:h.get? a=some o) (hc:o.cls=.ref C) (hs:subIn K (.ref C) (.type "object")=some true) (hf:findIn K (.ref C) "__class__"=some (some (.builtin "object.__class__"))) (hq:Q (.done (.ret (.ref C))) ⟨h,g,d,t,os⟩):
  wpAny (model prog w) A (Builtin.«object.__getattribute__» ⟨[.ref a,.str "__class__" tk],[]⟩) Q E ⟨h,g,d,t,os⟩:=by
 have hT5:(⟨h,g,d,t,os⟩:Shared).TypeIs (.builtin "object.__class__") "getset_descriptor":=F.typeOf_object_class
 have f5:=F.typeOf_object_class
 have f6:=F.slot_gs_get.lookup
 have f7:=F.slot_gs_set.lookup
 have L1:Looks (model prog w) h (typeLookup (.ref C) "__class__") (some (.builtin "object.__class__")):=looks_findIn X hf
 repeat (any_goals (first | assumption | (with_reducible refine wpAny_loadPart_at hx ?_; rw [hc]) | with_reducible refine L1.at ?_ | wp_step))
 refine zom X hx hc hs ?_
 repeat (any_goals (first | assumption | wp_step))
theorem zkg {M:Model} {nameV:Value} {Q:Unit->Shared->Prop} (X:K.In h) (hx:h.get? a=some o) (hc:o.cls=.ref C) (hs:subIn K (.ref C) (.type "BaseException")=some true) (hq:Q () ⟨h,g,d,t,os⟩):
  wpAny M A (checkBuiltinCall "BaseException.__getattribute__" ⟨[.ref a,nameV],[]⟩) Q E ⟨h,g,d,t,os⟩:=by
 have hk:builtinKind "BaseException.__getattribute__"=some .slot:=by decide +kernel
 have hsplit:splitId "BaseException.__getattribute__"=some ("BaseException","__getattribute__"):=by decide +kernel
 have L1:Looks M h (isSubtype (.ref C) (.type "BaseException")) true:=looks_subIn X hs
 have ha:=F.args_bexc_ga (.ref a) nameV
 simp only [checkBuiltinCall,hk,hsplit]
 refine wpAny_bind ?_
 unfold isInstance
 repeat (first | (with_reducible refine wpAny_loadPart_at hx ?_; rw [hc]) | with_reducible refine L1.at ?_ | wp_step)
 exact hq
theorem zpm {tk:Tok} {Q:Value->Shared->Prop} (X:K.In h) (hx:h.get? a=some o) (hc:o.cls=.ref C) (hs:subIn K (.ref C) (.type "object")=some true) (hs2:subIn K (.ref C) (.type "BaseException")=some true)
  (hf:findIn K (.ref C) "__class__"=some (some (.builtin "object.__class__"))) (hga:findIn K (.ref C) "__getattribute__"=some (some (.builtin "BaseException.__getattribute__"))) (hna:findIn K (.ref C) "__getattr__"=some none) (hq:Q (.ref C) ⟨h,g,d,t,os⟩):
  wpAny (model prog w) A (getAttrBy (.ref a) (.str "__class__" tk) false) Q E ⟨h,g,d,t,os⟩:=by
 have f3:=PySem.F.attrBase_ValueError.ga.bind (.ref a)
 have hx2:(Value.builtin "BaseException.__getattribute__" == Value.builtin "object.__getattribute__")=false:=by decide +kernel
 have hx1:(onTheHeap (Value.ref C) && Value.builtin "BaseException.__getattribute__" == Value.builtin "object.__getattribute__")=false:=by rw [hx2]; rfl
 have L1:Looks (model prog w) h (typeLookup (.ref C) "__getattribute__") (some (.builtin "BaseException.__getattribute__")):=looks_findIn X hga
 have L2:Looks (model prog w) h (typeLookup (.ref C) "__getattr__") none:=looks_findIn X hna
 repeat (any_goals (first | assumption | (with_reducible refine wpAny_loadPart_at hx ?_; rw [hc]) | with_reducible refine L1.at ?_ | with_reducible refine L2.at ?_ | wp_step))
 refine codeAny_call_builtin PySem.F.attrBase_ValueError.ga.plain F.entry_bexc_ga (zkg X hx hc hs2 (zlM X hx hc hs hf ?_))
 repeat (any_goals (first | assumption | wp_step))
theorem zmj {Q:Option Value->Shared->Prop} (X:K.In h) (hx:h.get? a=some o) (hc:o.cls=.ref C) (hs:subIn K (.ref C) (.type "object")=some true) (hs2:subIn K (.ref C) (.type "BaseException")=some true)
  (hf:findIn K (.ref C) "__class__"=some (some (.builtin "object.__class__"))) (hga:findIn K (.ref C) "__getattribute__"=some (some (.builtin "BaseException.__getattribute__"))) (hna:findIn K (.ref C) "__getattr__"=some none) (hq:Q (some (.ref C)) ⟨h,g,d,t + 1,os⟩):
  wpAny (model prog w) A (getAttr? (.ref a) "__class__") Q E ⟨h,g,d,t,os⟩:=by
 unfold getAttr? getAttrBy?
 repeat (any_goals (first | assumption | with_reducible apply zpm X hx hc hs hs2 hf hga hna | wp_step))
end
end L2
namespace L2
open PySem PySem.Spec PySem.W PyProof.Rows
structure XCls (K:Frag) (C:Addr):Prop where
 obj:∃ c d cd sl,K.lookup C=some ⟨c,d,.cls cd,sl⟩
 sO:subIn K (.ref C) (.type "object")=some true
 sB:subIn K (.ref C) (.type "BaseException")=some true
 fc:findIn K (.ref C) "__class__"=some (some (.builtin "object.__class__"))
 fg:findIn K (.ref C) "__getattribute__"=some (some (.builtin "BaseException.__getattribute__"))
 fn:findIn K (.ref C) "__getattr__"=some none
theorem ziu {K:Frag} {a C:Addr} (c:XCls K C):KitX K (.ref a) (.ref C) (fun h=>∃ o,h.get? a=some o /\ o.cls=.ref C) where
 ty:=fun _ _ _ ⟨o,hx,hc⟩=>by rw [<- hc]; exact (Looks.ld hx).andThen Looks.now
 it:=fun _ _ X _=>by
  obtain ⟨c',d',cd',sl',ho⟩:=c.obj
  intro A' Q' E' s' k q
  unfold isType loadHead
  exact wpAny_bind (wpAny_loadPart (k _ _ (X _ _ ho)) (wpAny_pure q))
 ne:=fun h tp dd its n sl X htp=>by
  obtain ⟨c',d',cd',sl',ho⟩:=c.obj
  refine Bool.eq_false_iff.mpr fun q=>?_
  have e:C=tp:=Value.ref.inj (beq_iff_eq.mp q)
  subst e
  have z:=(X _ _ ho).symm.trans htp
  cases z
 ca:=fun {_ _ _ _ _ s} X ⟨o,hx,hc⟩ k=>by
  obtain ⟨h,g,d,t,os⟩:=s
  exact zmj X hx hc c.sO c.sB c.fc c.fg c.fn k
noncomputable def isiX (K:Frag):List V->Hp->VK->Prop:=fun vs H Q=>∃ a C cv b,vs=[.ref a,cv] /\ H a=some (ExO a C) /\ XCls K C /\ Q (.bl b) H /\
 ((∃ c,(∀ u,RelV cv u->u=c) /\ kitOne K (.ref C) c=some b) \/ ∃ tp cvs,cv=.ref tp /\ H tp=some (.tup cvs) /\ ∀ its,Vals cvs its->kitAny K (.ref C) its=some b)
theorem zgb {X:Cx}:CallR X (.builtin "isinstance") (isiX X.K):=by
 rintro pins s σ H vs us Q I r ⟨a,C,cv,b,rfl,ha,hc,q,h⟩
 have ⟨u1,u2,e,r1,r2⟩:∃ u1 u2,us=[u1,u2] /\ RelV (.ref a) u1 /\ RelV cv u2:=by
  cases r with
  | cons r1 r'=>cases r' with
    | cons r2 r''=>cases r'' with
      | nil=>exact ⟨_,_,rfl,r1,r2⟩
 subst e
 cases (show u1=Value.ref a from r1)
 have hx:∃ o,s.heap.get? a=some o /\ o.cls=.ref C:=(I.hok a _ ha).1.1
 rcases h with ⟨c,hcv,e⟩ | ⟨tp,cvs,rfl,ht,e⟩
 ·cases hcv u2 r2
  exact kia_one (ziu hc) I.kIn hx e (fun z=>nomatch z) fun tk=>⟨.bl b,H,I.tok tk,rfl,q⟩
 ·cases (show u2=Value.ref tp from r2)
  obtain ⟨_,its,rv,o,ho,ho2,n,ho3⟩:=(show ObjOk X.prog X.w H s.heap tp (.tup cvs) from I.hok tp _ ht)
  obtain ⟨oc,od,odt,osl⟩:=o
  cases ho2
  cases ho3
  exact kia_tup (ziu hc) I.kIn hx ho (e its rv) (fun z=>nomatch z) fun tk=>⟨.bl b,H,I.tok tk,rfl,q⟩
structure RoomX (k:Nat) (A:Around):Prop where
 dp:A.depth + 3 * k + 5 < recursionLimit
 un:A.units + 16 * k + 200 < cLine
theorem Room.markX {k:Nat} {A:Around} (r:Room k A) (v:Option Value):RoomX k (A.mark v):=⟨r.dp,r.un⟩
theorem RoomX.mono {j k:Nat} {A:Around} (r:RoomX k A) (h:j<=k):RoomX j A:=⟨by have:=r.dp; omega,by have:=r.un; omega⟩
theorem RoomX.deeper {k:Nat} {A:Around} (r:RoomX (k + 1) A) (env:Env):RoomX k (A.deeper env):=
 ⟨by have:=r.dp; show A.depth + 1 + 3 * k + 5 < _; omega,by have:=r.un; show A.units + 3 + 16 * k + 200 < _; omega⟩
noncomputable def cxX (P:Program) (w:World) (K:Frag) (mg:Str->Option Value) (base:Heap) (N:List Str) (qual:Str) (scope:Scope) (f:Addr) (cd:Value) (A:Around) (outer:List Env) (s:Shared) (H:Hp):Cx:=
 { cxOf CX0 P w K mg base N qual scope f cd A outer s H E0 with calm:=false,xe:=fun _ _=>False }
section
variable {P:Program} {w:World} {K:Frag} {mg:Str->Option Value} {base:Heap}
end
end L2
namespace L2
open PySem PySem.Spec PySem.W PyProof.Rows
noncomputable def DnR (P:Program) (w:World) (K:Frag) (mg:Str->Option Value) (base:Heap) (k:Nat) (x:Str) (ps:List Str) (sp:Sp):Prop:=
 ∃ f fd,FnOk P w K mg base (CXr P w) k f fd ps sp /\ mg x=some (.ref f) /\ keepIn K (.ref f)=true /\ Binds K fd ps []
section
variable {P:Program} {w:World} {K:Frag} {mg:Str->Option Value} {base:Heap} {x:Str} {st:Stmt} {N ps:List Str} {k:Nat} {sp:Sp}
theorem Df.okR (F:Df K mg x st ps) (S:FnScope N ps (defScope st)) (len:∀ vs H Q E,sp vs H Q E->vs.length=ps.length)
  (hbody:∀ (f:Addr) (cdv:Value) (A:Around) (outer:List Env) (s:Shared) (H:Hp) (vs:List V) (Q:VK) (E:XK),Room k (A.deeper (envOfC x (defScope st) s.heap.objs.size f cdv))->sp vs H Q E->
   ∃ t,PSs (cxOf (CXr P w) P w K mg base N x (defScope st) f cdv A outer s H E) (defBody st) t /\ t { nx:=fun _ H'=>Q .non H',rt:=Q } (start N vs) H):DnR P w K mg base (k + 1) x ps sp:=by
 obtain ⟨f,fd,F,m,b⟩:=F
 have kp:=F.kp
 obtain ⟨oc,od,kV,doc,pm,an,cdv,ct,osl,rfl,lk,hcd⟩:=F.ex
 exact ⟨f,_,zpE lk hcd S len (hbody f cdv),m,kp,b⟩
end
set_option tactic.hygienic true in
theorem zlJ {K:Frag} {mg:Str->Option Value} {x:Str} {C:Addr} {bm:List Value} {newId:String} (hm:mg x=some (.ref C)) (q:excIn K C bm newId=true):∃ tl,ExC K mg x C bm tl newId:=by
 unfold excIn at q
 split at q
 ·rename_i dd cd sl ho
  split at q
  ·rename_i C' tl k0 k1 k2 k3 n k5 hr hs
   simp only [Bool.and_eq_true,beq_iff_eq,Bool.not_eq_true'] at q
   obtain ⟨⟨⟨⟨⟨e1,e2⟩,hdel⟩,ht⟩,hok⟩,hni⟩:=q
   subst e1 e2
   obtain ⟨nm,bs,mro,ns,qn,hd,sn,sub,ab,col,del⟩:=cd
   dsimp only at hr hdel hok hni
   subst hr hdel
   have hsl:sl=#[k0,k1,k2,k3,some (.builtin n),k5]:=by
    obtain ⟨l⟩:=sl
    simp only at hs
    rw [hs]
   subst hsl
   have hno:∃ c d es ep sl2,K.lookup ns=some ⟨c,d,.dict es ep,sl2⟩ /\ (es.all fun e=>match e.key with | .str _ _=>true | _=>false)=true:=by
    unfold nsOkIn at hok
    split at hok
    ·rename_i ho2
     exact ⟨_,_,_,_,_,ho2,hok⟩
    ·cases hok
   obtain ⟨c2,d2,es2,ep2,sl2,hl2,hall⟩:=hno
   refine ⟨tl,hm,ns,nm,qn,bs,hd,sn,sub,ab,col,dd,k0,k1,k2,k3,k5,nsFind es2,?_,fun h X=>⟨X _ _ ho,?_,tail_of_in X ht⟩⟩
   ·unfold nsIn at hni
    rw [hl2] at hni
    dsimp only at hni
    split at hni
    ·cases hni
    ·rename_i he
     unfold nsFind findBy
     rw [<- Array.find?_toList,he]
     rfl
   ·have hns:h.Ns ns (h.nsMap ns):=.of_isNs (isNs_of_in X hok)
    obtain ⟨o,es,ep,h1,h2,h3,h4⟩:=hns
    rw [X _ _ hl2] at h1
    cases h1
    cases h2
    exact ⟨_,_,_,X _ _ hl2,rfl,h3,fun _=>rfl⟩
  ·cases q
 ·cases q
end L2
namespace L2
open PySem PySem.Spec PySem.W PyProof.Rows
noncomputable def isRx:D->Option Str
 | .dict [(.none,.str c)]=>some c
 | _=>none
theorem ze1 {d:D} {c:Str} (h:isRx d=some c):d=rxD c:=by
 unfold isRx at h
 split at h
 ·cases h; rfl
 ·cases h
theorem zih {d:D} {r:List (D×D)} {kvs:List (List Key×V)} {d':D} (k:((d,d') :: r).map (·.1)=kvs.map (fun p=>PyData.tuple (p.1.map keyD))) (h:∀ l,d≠.tuple l):False:=by
 cases kvs with
 | nil=>cases k
 | cons p q=>exact h _ (List.cons.inj k).1
theorem zo7 {K:Frag} {H:Hp} {v:V} {c:Str} (h:HD K H v (rxD c)):False:=by
 unfold rxD at h
 cases h with
 | dct _ k _=>exact zih k fun _ z=>nomatch z
noncomputable def orRx (d:D) (r:Res):Res:=match isRx d with
 | some _=>.rt d
 | none=>r
theorem zeX {d:D} {r:Res} (h:isRx d=none):orRx d r=r:=by unfold orRx; rw [h]
theorem zkJ {c:Str} {r:Res}:orRx (rxD c) r=.rt (rxD c):=rfl
noncomputable def xkOf (mg:Str->Option Value) (E:XK):Str->Hp->Prop:=fun c H=>∀ C,mg c=some (.ref C)->E (.ref C) none H
noncomputable def gRaise (c:Str):DS->Option Res:=fun _=>some (.rt (rxD c))
noncomputable def spR (K:Frag) (mg:Str->Option Value) (n:Nat) (G:List D->Option D):Sp:=fun vs H Q E=>vs.length=n /\ ∃ A ds d,Ls A H /\ HDs K (wo H A) vs ds /\ G ds=some d /\
 (∀ v H',Same H H'->HD K (wo H' A) v d->Q v H') /\ ∀ c H',d=rxD c->Same H H'->xkOf mg E c H'
section
variable {P:Program} {w:World} {K:Frag} {mg:Str->Option Value} {base:Heap} {N ps:List Str} {x qual:Str} {st:Stmt} {scope:Scope} {f:Addr} {cd:Value} {A:Around} {outer:List Env} {s:Shared} {H:Hp} {E:XK} {O:List Nat} {k:Nat}
theorem zea {c:Str} {C:Addr} {b:Bool} {bm tl bmN:List Value} {newId nid initId inN B Bn:String} {e₀:Expr} {v:V} {np cpos pos:Pos} (hC:ExC K mg c C bm tl newId) (Fn:ExcBaseFacts Bn newId inN bmN) (hBn:bm.contains (.type Bn)=true) (FB:ExcBaseFacts B nid initId bm)
  (ha:PE (cxOf (CXr P w) P w K mg base N qual scope f cd A outer s H E) e₀ (tC v)) (hg:Gl (cxOf (CXr P w) P w K mg base N qual scope f cd A outer s H E) c:=by rfl)
  (he:starEach [e₀] (envOfC qual scope s.heap.objs.size f cd)=[(false,eval e₀ (envOfC qual scope s.heap.objs.size f cd))]:=by rfl) (he0:starEach ([]:List Expr) (envOfC qual scope s.heap.objs.size f cd)=[]:=by rfl) (hd:(c == ("__debug__":Str))=false:=by decide):
  PS (cxOf (CXr P w) P w K mg base N qual scope f cd A outer s H E) (.Raise (some (.Call (.Name c np) [e₀] [] cpos)) none pos) (tS K O (b,xkOf mg E) (gRaise c)):=
 (zm3 hC Fn hBn FB (zZ ha za2 (by show starEach [e₀] (envOfC qual scope s.heap.objs.size f cd)=(false,eval e₀ (envOfC qual scope s.heap.objs.size f cd)) :: starEach [] (envOfC qual scope s.heap.objs.size f cd); rw [he,he0])) hg (by rw [he,he0]) (by rw [he0]; rfl) hd).mono fun D σ H1 hh=>hh.e fun H0 U A0 δ r R F ed Q=>by
  cases ed
  exact ⟨by show 1<=sizeLine; decide,Q.2 c H1 rfl F.same C hC.bound⟩
theorem zcD (O:List Nat) (g:DS->Option Res) (F:Df K mg x st ps) (S:FnScope N ps (defScope st))
  (body:∀ (f:Addr) (cdv:Value) (A:Around) (outer:List Env) (s:Shared) (H:Hp) (E:XK),Room k (A.deeper (envOfC x (defScope st) s.heap.objs.size f cdv))->PSs (cxOf (CXr P w) P w K mg base N x (defScope st) f cdv A outer s H E) (defBody st) (tS K O (false,xkOf mg E) g))
  (hO:∀ i∈O,ps.length<=i:=by decide) {n m:Nat} (hN:N.length=n:=by rfl) (hP:ps.length=m:=by rfl):DnR P w K mg base (k + 1) x ps (spR K mg m (gDef n g)):=by
 subst hN hP
 refine F.okR S (fun vs H Q E h=>h.1) (fun f cdv A outer s H vs Q E hr h=>⟨_,body f cdv A outer s H E hr,?_⟩)
 obtain ⟨hn,A',ds,d,al,hd,e,q,qx⟩:=h
 obtain ⟨r,e1,e2⟩:=bind1 e
 refine ⟨H,[],A',_,r,Rel.start al hd (fun i hi=>by have:=hO i hi; rw [<- hd.len,hn]; exact this),Fx.start al,e1,?_⟩
 cases r with
 | nx δ=>cases e2; exact fun U σ H' R F'=>q .non H' F'.same .non
 | rt d=>cases e2; exact ⟨fun v H' h=>by unfold RetR at h; rw [if_neg Bool.false_ne_true] at h; exact q v H' h.1 h.2,fun c H' e s=>qx c H' e s⟩
 | bk _=>cases e2
 | ct _=>cases e2
end
noncomputable def gSetR (i:Nat) (g:DS->Option D):DS->Option Res:=fun δ=>(g δ).bind fun d=>some (orRx d (.nx (δ.set i (some d))))
noncomputable def gDropR (g:DS->Option D):DS->Option Res:=fun δ=>(g δ).bind fun d=>some (orRx d (.nx δ))
section
variable {X:Cx} {O:List Nat} {E:XK} {k kk n i:Nat} {x:Str} {ps:List Str} {p pos:Pos} {e:Expr} {es:List Expr} {gr:DS->Option (List D)} {G:List D->Option D} {st:Stmt} {b:Bool}
theorem zba (F:DnR X.prog X.w X.K X.mg X.base k x ps (spR X.K X.mg n G)) (hr:Room kk X.A) (hk:k<=kk) (hx:Passes (CXr X.prog X.w) X E) (ha:PA X (e :: es) (tAs X.K O gr)) (hg:Gl X x:=by rfl)
  (hdb:(x == ("__debug__":Str))=false:=by decide) (he:starEach (e :: es) X.env=(false,eval e X.env) :: starEach es X.env:=by rfl) (hpl:(backTo pos (starEach es X.env)).any (·.1)=false:=by rfl):
  PE X (.Call (.Name x p) (e :: es) [] pos) (tCall (spR X.K X.mg n G) [] E (tAs X.K O gr)):=by
 obtain ⟨f,fd,F,m,kp,b⟩:=F
 exact zj0 F (hr.mono hk) hg m kp b .nil hx ha hdb he hpl
set_option tactic.hygienic true in
theorem tCallR {K:Frag} {mg:Str->Option Value} {σ:St} {δ:DS} {H:Hp} {Q:VK} {U A0:List Addr} {d:D} (R:Rel K O U A0 σ δ H) (e:gCall G n gr δ=some d) (qn:∀ v H',Same H H'->HD K (wo H' (U ++ A0)) v d->Q v H')
  (qx:∀ c H',d=rxD c->Same H H'->xkOf mg E c H'):tCall (spR K mg n G) [] E (tAs K O gr) σ H Q:=by
 obtain ⟨ds,e1,e2⟩:=bind1 e
 split at e2
 ·rename_i hn
  refine ⟨U,A0,δ,ds,R,e1,fun vs H' s h=>?_⟩
  show spR K mg n G (vs ++ []) H' Q E
  rw [List.append_nil]
  exact ⟨by rw [h.len]; exact hn,U ++ A0,ds,d,(R.same s).al,h,e2,fun v H2 s2 h2=>qn v H2 (s.trans s2) h2,fun c H2 ed s2=>qx c H2 ed (s.trans s2)⟩
 ·cases e2
theorem zfD (h:PS X st (tAsg (tCall (spR X.K X.mg n G) [] E (tAs X.K O gr)) (gName i))) (hi:i∉O:=by decide):PS X st (tS X.K O (b,xkOf X.mg E) (gSetR i (gCall G n gr))):=h.mono fun D σ H hh=>hh.e fun H0 U A0 δ r R F ed P=>by
 obtain ⟨d,e1,e2⟩:=bind1 ed
 have e3:=Option.some.inj e2
 refine tCallR R e1 (fun v H' s hv=>?_) (fun c H' hd s=>?_)
 ·cases hx:isRx d with
  | some c=>rw [ze1 hx] at hv; exact (zo7 hv).elim
  | none=>
    rw [zeX hx] at e3
    subst e3
    exact P U _ H' ((R.same s).set hi hv) (F.grow s)
 ·subst hd
  rw [zkJ] at e3
  subst e3
  exact P.2 c H' rfl (F.same.trans s)
theorem zcn (h:PS X st (tDrop (tCall (spR X.K X.mg n G) [] E (tAs X.K O gr)))):PS X st (tS X.K O (b,xkOf X.mg E) (gDropR (gCall G n gr))):=h.mono fun D σ H hh=>hh.e fun H0 U A0 δ r R F ed P=>by
 obtain ⟨d,e1,e2⟩:=bind1 ed
 have e3:=Option.some.inj e2
 refine tCallR R e1 (fun v H' s hv=>?_) (fun c H' hd s=>?_)
 ·cases hx:isRx d with
  | some c=>rw [ze1 hx] at hv; exact (zo7 hv).elim
  | none=>
    rw [zeX hx] at e3
    subst e3
    exact P U _ H' (R.same s) (F.grow s)
 ·subst hd
  rw [zkJ] at e3
  subst e3
  exact P.2 c H' rfl (F.same.trans s)
end
theorem zmW {K:Frag} {b:Bool} {H0 H':Hp} {A0:List Addr} {v:V} {c:Str} (h:RetR K b H0 A0 v (rxD c) H'):False:=by
 unfold RetR at h
 split at h
 ·obtain ⟨r,o,_,_,_,_,q⟩:=h
  cases q with
  | dct k _=>exact zih k fun _ z=>nomatch z
 ·exact zo7 h.2
noncomputable abbrev Cx.tr (X:Cx) (pins0:List (Addr×Obj)) (E:XK):Cx:={ X with pn:=X.pn ++ pins0,xe:=fun v s1=>∃ σ H0 s0,Inv X pins0 σ H0 s0 /\ CXr X.prog X.w X.stack H0 s0 E v s1 }
section
variable {X:Cx} {pins pins0:List (Addr×Obj)} {σ:St} {H:Hp} {s:Shared} {E:XK}
theorem Cx.Ok.tr (ok:X.Ok):(X.tr pins0 E).Ok:=
 ⟨ok.mod,ok.kind,ok.glob,ok.blt,ok.above,ok.inj,ok.has,ok.cab,ok.hd,ok.frames,ok.stk,ok.exf,ok.bs,ok.bsz,ok.noex,ok.exfs,ok.funs,ok.frf⟩
theorem Cx.Ok.untr (ok:(X.tr pins0 E).Ok):X.Ok:=
 ⟨ok.mod,ok.kind,ok.glob,ok.blt,ok.above,ok.inj,ok.has,ok.cab,ok.hd,ok.frames,ok.stk,ok.exf,ok.bs,ok.bsz,ok.noex,ok.exfs,ok.funs,ok.frf⟩
theorem Inv.tr (I:Inv X pins0 σ H s):Inv (X.tr pins0 E) [] σ H s:=⟨I.ok.tr,I.os,I.bare,I.base,I.loc,I.cell,I.free,I.freeC,fun p hp=>I.pin p (by rw [List.append_nil] at hp; exact hp),I.hok,I.len⟩
theorem Inv.untr (I:Inv (X.tr pins0 E) pins σ H s):Inv X pins0 σ H s:=⟨I.ok.untr,I.os,I.bare,I.base,I.loc,I.cell,I.free,I.freeC,fun p hp=>I.pin p (List.mem_append_left _ hp),I.hok,I.len⟩
theorem zfG:Passes (CXr X.prog X.w) (X.tr pins0 E) E:=fun _ σ H s _ _ I h=>⟨σ,H,s,I.untr,h⟩
end
noncomputable abbrev exD (a:Addr) (c:Str):D:=.dict [(.list [],.tuple [.int (a:Nat),.str c])]
noncomputable def gTry (gb:DS->Option Res) (hand:Str->Option D):DS->Option Res:=fun δ=>(gb δ).bind fun r=>match r with
 | .rt d=>(match isRx d with
   | some c=>(hand c).bind fun d'=>some (.rt d')
   | none=>some (.rt d))
 | r=>some r
theorem Rel.caught {K:Frag} {O:List Nat} {A0:List Addr} {σ:St} {H1:Hp} {n i:Nat} {a C:Addr} {c:Str} (hl:σ.length=n) (hi:i < n) (hO:i∉O) (al:Ls A0 H1) (ta:H1 a=none) (hns:nsIn K mainGlobals c=some (some (.ref C))):
  Rel K O [] A0 (σ.set i (some (.ref a))) ((List.replicate n none).set i (some (exD a c))) (upd H1 a (ExO a C)):=by
 have get:∀ (j:Nat) d,((List.replicate n (none:Option D)).set i (some (exD a c)))[j]?=some (some d)->j=i /\ d=exD a c:=fun j d q=>by
  by_cases hj:i=j
  ·subst hj
   rw [List.getElem?_set_self (by rw [List.length_replicate]; exact hi)] at q
   cases q
   exact ⟨rfl,rfl⟩
  ·rw [List.getElem?_set_ne hj] at q
   have:=List.mem_of_getElem? q
   rw [List.mem_replicate] at this
   exact absurd this.2 (fun z=>nomatch z)
 exact {
  len:=by rw [List.length_set,List.length_set,List.length_replicate]; exact hl
  fz:=fun j d _ q=>by
   obtain ⟨rfl,rfl⟩:=get j d q
   exact ⟨.ref a,List.getElem?_set_self (by rw [hl]; exact hi),.exc hns (by show wo (upd H1 a (ExO a C)) A0 a=_; rw [zam (fun z=>al.free ta z)]; exact z8)⟩
  ow:=fun j d hj q=>absurd hj (by rw [(get j d q).1]; exact hO)
  inj:=fun j k d e l hj _ _ q _ _ _=>absurd hj (by rw [(get j d q).1]; exact hO)
  al:=al.same (z9 ta _) }
section
variable {X:Cx} {O:List Nat} {T n:Str} {Tv:Value} {tp hpos pos:Pos} {body suite:List Stmt} {b₀:Stmt} {gb:DS->Option Res} {gs:Addr->DS->Option Res} {hand:Str->Option D} {xk:Str->Hp->Prop} {i:Nat}
theorem zqv {b:Bool} (hb:∀ pins0 E,PSs (X.tr pins0 E) body (tS X.K O (b,xkOf X.mg E) gb)) (hs:∀ a,PSs (X.inX a) (b₀ :: suite) (tS X.K O (b,fun _ _=>True) (gs a)))
  (hcl:∀ c d,hand c=some d->∃ C,nsIn X.K mainGlobals c=some (some (.ref C)) /\ X.mg c=some (.ref C) /\ exmOne X.K (.ref C) Tv=some true)
  (hh:∀ a c d,hand c=some d->gs a ((List.replicate X.N.length none).set i (some (exD a c)))=some (.rt d)) (hT:X.mg T=some Tv) (hN:X.N.Nodup) (hi:X.N[i]?=some n:=by rfl) (hiO:i∉O:=by decide)
  (hl:X.env.scope.names.lookup n=some .local:=by rfl) (hgT:Gl X T:=by rfl) (hst:X.stack=X.env :: X.outer:=by rfl) (hfr:X.env.frame=some X.env.locals:=by rfl) (hdT:(T == ("__debug__":Str))=false:=by decide):
  PS X (.Try body [.ExceptHandler (some (.Name T tp)) (some n) (b₀ :: suite) hpos] [] [] pos) (tS X.K O (b,xk) (gTry gb hand)):=by
 rintro pins s σ H D I ⟨H00,U,A0,δ,r,R,F,ed,P⟩
 obtain ⟨r0,e1,e2⟩:=bind1 ed
 refine wpAny_Try_except ?_
 refine wpAny_mono (hb pins (fun cv _ H2=>∃ c C,r0=.rt (rxD c) /\ cv=.ref C /\ X.mg c=some (.ref C) /\ Same H00 H2) [] s σ H D I.tr ⟨H00,U,A0,δ,r0,R,F,e1,?_⟩) (fun fl s1 hq=>?_) ?_
 ·cases r0 with
  | nx δ'=>cases e2; exact P
  | bk δ'=>cases e2; exact P
  | ct δ'=>cases e2; exact P
  | rt d=>
    cases hx:isRx d with
    | none=>
      simp only [hx] at e2
      cases e2
      exact ⟨P.1,fun c H' hd s=>by subst hd; cases hx⟩
    | some c=>
      have hd:=ze1 hx
      subst hd
      exact ⟨fun v H' h=>(zmW h).elim,fun c' H' hd s C hC=>⟨c',C,by rw [hd],rfl,hC,s⟩⟩
 ·cases fl with
  | next=>obtain ⟨σ',H',I',q⟩:=hq; exact wpAny_execs_nil ⟨σ',H',I'.untr,q⟩
  | brk=>obtain ⟨σ',H',I',q⟩:=hq; exact ⟨σ',H',I'.untr,q⟩
  | cont=>obtain ⟨σ',H',I',q⟩:=hq; exact ⟨σ',H',I'.untr,q⟩
  | ret u=>obtain ⟨v,σ',H',I',rv,q⟩:=hq; exact ⟨v,σ',H',I'.untr,rv,q⟩
 rintro v s1 ⟨σ0,H0,s0,I0,a,t,C,B,H1,rfl,os,bare,un,hok,na,ta,cov,fly,nc0,c,C',er,hC,hm,hsame⟩
 cases hC
 subst er
 have e3:((hand c).bind fun d'=>some (Res.rt d'))=some r:=e2
 obtain ⟨d,hd,hr⟩:=bind1 e3
 cases hr
 obtain ⟨C2,hns,hm2,hex⟩:=hcl c d hd
 rw [hm] at hm2
 cases hm2
 have fr:=fly.2.2.1
 have st:=fly.1
 have fly':Heap.FlyingW B (X.env :: X.outer) a (.ref C) (.ref t) s1.heap:=by rw [<- hst]; exact fly
 have nf:∀ b∈frs X.stack,H1 b=none:=fun b hb=>by
  obtain ⟨_,o,ho,_⟩:=I0.stack.mem hb
  exact un.free b o ho (I0.stkFree b hb) fun z=>nomatch z
 have again:∀ {h2:Heap},Heap.FlyingW B (X.env :: X.outer) a (.ref C) (.ref t) h2->s1.heap.UpToSlots h2->Inv X pins σ0 H1 { s1 with heap:=h2 }:=fun {h2} fly2 up2=>
  I0.call' (ch:=[]) os (zjT un cov st fly2.1 up2 fr) (zhn hok cov st fly2.1 nf) bare (fun b z=>nomatch z)
 refine zlt (I0.ok.frames.trans (congrArg some hst)) hfr fly' nc0 fun h4 held nc4 up4=>?_
 refine landsX held nc4 fun h5 fly5 nc5 up5=>?_
 have I5:=again fly5 (up4.trans up5)
 have LT:Looks (model X.prog X.w) h5 (typeOf (.ref a)) (.ref C):=by
  obtain ⟨ob,hob,hc⟩:=fly5.there
  rw [<- hc]
  exact (Looks.ld hob).andThen Looks.now
 refine wpAny_handleBy_cons (codeAny_handlers_test (zeq (I5.inX a) hgT hT ?_ hdT)) (by intro q; cases q)
 refine (exm_one (M:=model X.prog X.w) I5.kIn LT hex).here ?_
 refine codeAny_handlers_suite_as (zgM fly5 nc5 fun h6 fly6 nc6 up6=>?_)
 have I6:=again fly6 ((up4.trans up5).trans up6)
 have hnew:∃ o,h6.get? a=some o /\ o.cls=.ref C:=fly6.there
 have I6t:=I6.trackX (o:=ExO a C) I0 na ta ⟨⟨hnew,nc6⟩,let ⟨o,q,_⟩:=hnew; ⟨o,q⟩,fun h1 h2 ⟨⟨o,q,c⟩,_⟩ kk=>⟨⟨o,kk o q,c⟩,trivial⟩⟩
 refine zeb (X:=X.inX a) (v:=.ref a) (I6t.inX a) hN hi (.inl hl) rfl (fun s7 I7=>?_) (.inr hl)
 have hin:i < X.N.length:=(List.getElem?_eq_some_iff.mp hi).1
 refine wpAny_mono (hs a pins s7 _ _ { nx:=fun _ _=>False,rt:=D.rt } I7 ⟨H00,[],A0,_,.rt d,Rel.caught I0.len hin hiO (F.old.same hsame) ta hns,⟨hsame.trans (z9 ta _),fun _ z=>(by simp at z),F.old⟩,hh a c d hd,⟨fun v H' h=>P.1 v H' h,fun _ _ _ _=>trivial⟩⟩) (fun fl s8 hq=>?_) fun _ _ z=>z.elim
 cases fl with
 | ret u=>
   obtain ⟨v,σ',H',J,rv,q⟩:=hq
   obtain ⟨m,hn,_⟩:=id J.loc
   exact wpAny_nameGoes hl hn (by rw [I0.ok.kind]; rfl) fun h9 m' hn' hs'=>⟨v,_,H',(J.outX I0.ok).forget hn' hs',rv,q⟩
 | next=>obtain ⟨_,_,_,q⟩:=hq; exact q.elim
 | brk=>obtain ⟨_,_,_,q⟩:=hq; exact q.elim
 | cont=>obtain ⟨_,_,_,q⟩:=hq; exact q.elim
end
noncomputable def isX (c T:Str):Bool:=decide (c=T) || decide (T="ValueError") || decide (T="LotError")
noncomputable def exP:D->Option (Int×Str)
 | .dict (p :: _)=>(match p.1 with
   | .list _=>(match p.2 with
     | .tuple (.int a :: .str c :: _)=>some (a,c)
     | _=>none)
   | _=>none)
 | _=>none
noncomputable def gIsiX (cs:List Str) (T:Str) (g:DS->Option D):DS->Option D:=fun δ=>(g δ).bind fun d=>(exP d).bind fun y=>if y.2∈cs then some (.bool (isX y.2 T)) else none
noncomputable def ClT (K:Frag) (cs:List Str) (T:Str) (Tv:Value):Prop:=∀ c∈cs,∀ C,nsIn K mainGlobals c=some (some (.ref C))->XCls K C /\ kitOne K (.ref C) Tv=some (isX c T)
theorem zl4 {kds:List (D×D)} {kvs:List (List Key×V)} {y:Int×Str} (k:kds.map (·.1)=kvs.map (fun p=>PyData.tuple (p.1.map keyD))) (e:exP (.dict kds)=some y):False:=by
 cases kds with
 | nil=>cases e
 | cons p r=>
   obtain ⟨d,d'⟩:=p
   refine zih k fun l z=>?_
   subst z
   cases e
theorem ShD.excP {K:Frag} {A:List Addr} {H:Hp} {v:V} {d:D} {y:Int×Str} (h:ShD K A H v d) (e:exP d=some y):∃ a C:Addr,y.1=(a:Nat) /\ v=.ref a /\ nsIn K mainGlobals y.2=some (some (.ref C)) /\ H a=some (ExO a C):=by
 rcases h with h | ⟨l,o,rfl,e',q⟩
 ·cases h with
  | dct _ k _=>exact (zl4 k e).elim
  | exc k h=>cases e; exact ⟨_,_,rfl,rfl,k,(zdc h).2⟩
  | _=>cases e
 ·cases q with
  | dct k _=>exact (zl4 k e).elim
  | lst _=>cases e
section
variable {X:Cx} {O:List Nat} {e:Expr} {ga:DS->Option D} {pos p p2:Pos} {T:Str} {Tv:Value} {cv:V}
set_option tactic.hygienic true in
theorem zle (cs:List Str) (hB:X.mg "isinstance"=none) (ha:PE X e (tSh X.K O ga)) (ht:PE X (.Name T p2) (tC cv)) (hcv:∀ u,RelV cv u->u=Tv) (hT:ClT X.K cs T Tv) (hg:Gl X "isinstance":=by rfl)
  (he:starEach [e,.Name T p2] X.env=(false,eval e X.env) :: starEach [.Name T p2] X.env:=by rfl) (he2:starEach [.Name T p2] X.env=(false,eval (.Name T p2) X.env) :: starEach [] X.env:=by rfl) (hpl:(backTo pos (starEach [.Name T p2] X.env)).any (·.1)=false:=by rfl):
  PE X (.Call (.Name "isinstance" p) [e,.Name T p2] [] pos) (tE X.K O (gIsiX cs T ga)):=
 (zdr zgb hg hB zcz (zZ ha (zZ ht za2 he2) he) (by decide) (by decide) he hpl).mono fun σ H Q hh=>hh.e fun U A0 δ d R ed q=>by
  obtain ⟨x,e1,e2⟩:=bind1 ed
  obtain ⟨y,e3,e4⟩:=bind1 e2
  split at e4
  ·rename_i hz
   cases e4
   refine ⟨U,A0,δ,_,R,e1,fun v H' s h=>?_⟩
   obtain ⟨a,C,_,rfl,hns,hH⟩:=h.excP e3
   obtain ⟨xc,kt⟩:=hT _ hz C hns
   exact ⟨a,C,cv,_,rfl,hH,xc,q _ H' s (.bl _),.inl ⟨Tv,hcv,kt⟩⟩
  ·cases e4
end
section
variable {X:Cx} {O:List Nat} {scope:Scope} {elt iter tg:Expr} {ifs:List Expr} {pos:Pos} {gi:DS->Option (List D)} {ge:DS->Option D} {gt:D->DS->Option DS} {gc:DS->Option Bool} {k:Nat}
end
structure FnW (P:Program) (w:World) (K:Frag) (mg:Str->Option Value) (base:Heap) (k:Nat) (f:Addr) (fd:FuncData) (ps:List Str) (sp:Addr->Sp):Prop where
 len:∀ x vs H Q E,sp x vs H Q E->vs.length=ps.length
 run:∀ (x:Addr) (A:Around) (outer:List Env) (s:Shared) (H:Hp) (args:Args) (us:List Value) (vs:List V) (Q:VK) (E:XK),RoomX k A->A.handled=some (.ref x)->Env0 P w K mg base A outer s H->BindsTo s fd args (ps.zip us)->Vals vs us->sp x vs H Q E->
  codeAny (model P w) A (.call (.ref f) args) (CR CX0 outer P w H s Q E) s
section
variable {P:Program} {w:World} {K:Frag} {mg:Str->Option Value} {base:Heap}
theorem zpk {k:Nat} {f:Addr} {name qual:Str} {params:Arguments} {body:List Stmt} {scope:Scope} {dV kV doc pm cdv ct oc:Value} {an od:Option Addr} {osl:Array (Option Value)} {N ps:List Str} {sp:Addr->Sp}
  (lk:K.lookup f=some ⟨oc,od,.func (fnOf name qual params body scope dV kV doc pm an cdv ct),osl⟩) (hcd:codeIn K cdv qual=true) (S:FnScope N ps scope) (len:∀ x vs H Q E,sp x vs H Q E->vs.length=ps.length)
  (hbody:∀ (x:Addr) (A:Around) (outer:List Env) (s:Shared) (H:Hp) (vs:List V) (Q:VK) (E:XK),RoomX k (A.deeper (envOfC qual scope s.heap.objs.size f cdv))->A.handled=some (.ref x)->sp x vs H Q E->
   ∃ t,PSs (cxX P w K mg base N qual scope f cdv A outer s H) body t /\ t { nx:=fun _ H'=>Q .non H',rt:=Q } (start N vs) H):
  FnW P w K mg base (k + 1) f (fnOf name qual params body scope dV kV doc pm an cdv ct) ps sp:=by
 refine ⟨len,fun x A outer s H args us vs Q E hr hx e0 hb r hsp=>?_⟩
 have KX:K.In s.heap:=e0.mod.kin.keeps fun b o e=>(e0.bs b o e).1
 have lim:s.heap.NoLimit:=e0.mod.nolimit.keeps fun b o e=>(e0.bs b o e).1
 obtain ⟨t,ht,hq⟩:=hbody x A outer s H vs Q E (hr.deeper _) hx hsp
 have hkind:∀ y∈ps.zip us,scope.names.lookup y.1=some .local \/ (scope.names.lookup y.1=some .cell /\ ((cellsFrom (s.heap.objs.size + 1) scope.names []).lookup y.1).isSome=true):=fun ⟨n,v⟩ hy=>
  (S.par n (List.of_mem_zip hy).1).elim .inl fun q=>.inr ⟨q,cellsFrom_some _ _ _ (.inl q)⟩
 refine codeAny_call_function (by have:=hr.dp; omega) (KX _ _ lk) rfl S.co S.gen rfl (codeRec_of KX hcd) (hb _ _ _ _ (wpAny_newFunctionEnv_cells S.kind hkind fun env he s1 x=>?_))
 subst he
 refine ⟨lim.keeps x.toInCall.keep,codeAny_func ?_⟩
 have e1:Env0 P w K mg base { A with handled:=none } outer s H:=⟨e0.frames,e0.mod,e0.bs,e0.bsz,e0.funs,e0.frf,e0.hok,e0.bare⟩
 have J:Inv (cxOf CX0 P w K mg base N qual scope f cdv { A with handled:=none } outer s H E0) [] (start N vs) H s1:=zgS S rfl e1 (len _ _ _ _ _ hsp) r x
 have I:Inv (cxX P w K mg base N qual scope f cdv A outer s H) [] (start N vs) H s1:=
  ⟨⟨J.ok.mod,J.ok.kind,J.ok.glob,J.ok.blt,J.ok.above,J.ok.inj,J.ok.has,J.ok.cab,(fun z=>nomatch z),Around.frames_deeper e0.frames,J.ok.stk,J.ok.exf,J.ok.bs,J.ok.bsz,J.ok.noex,J.ok.exfs,J.ok.funs,J.ok.frf⟩,
    J.os,J.bare,J.base,J.loc,J.cell,J.free,J.freeC,J.pin,J.hok,J.len⟩
 refine wpAny_mono (ht [] s1 (start N vs) H _ I hq) (fun fl s' hs=>?_) fun e s' hs=>hs.elim
 cases fl with
 | ret u=>
   obtain ⟨v,σ',H',J',rv,q⟩:=hs
   exact ⟨v,H',J'.os,J'.bare,J'.base,J'.hok,rv,q⟩
 | next=>
   obtain ⟨σ',H',J',q⟩:=hs
   exact ⟨.non,H',J'.os,J'.bare,J'.base,J'.hok,rfl,q⟩
 | brk=>obtain ⟨_,_,_,q⟩:=hs; exact q.elim
 | cont=>obtain ⟨_,_,_,q⟩:=hs; exact q.elim
noncomputable def DnW (P:Program) (w:World) (K:Frag) (mg:Str->Option Value) (base:Heap) (k:Nat) (x:Str) (ps:List Str) (sp:Addr->Sp):Prop:=
 ∃ f fd,FnW P w K mg base k f fd ps sp /\ mg x=some (.ref f) /\ keepIn K (.ref f)=true /\ Binds K fd ps []
theorem zo6 {x:Str} {st:Stmt} {N ps:List Str} {k:Nat} (O:List Nat) (g:Addr->DS->Option Res) (F:Df K mg x st ps) (S:FnScope N ps (defScope st))
  (body:∀ (y f:Addr) (cdv:Value) (A:Around) (outer:List Env) (s:Shared) (H:Hp),RoomX k (A.deeper (envOfC x (defScope st) s.heap.objs.size f cdv))->A.handled=some (.ref y)->PSs (cxX P w K mg base N x (defScope st) f cdv A outer s H) (defBody st) (tS K O (false,fun _ _=>True) (g y)))
  (hO:∀ i∈O,ps.length<=i:=by decide) {n m:Nat} (hN:N.length=n:=by rfl) (hP:ps.length=m:=by rfl):DnW P w K mg base (k + 1) x ps (fun y=>spD K m (gDef n (g y))):=by
 subst hN hP
 obtain ⟨f,fd,F,m,b⟩:=F
 have kp:=F.kp
 obtain ⟨oc,od,kV,doc,pm,an,cdv,ct,osl,rfl,lk,hcd⟩:=F.ex
 refine ⟨f,_,zpk lk hcd S (fun y vs H Q E h=>h.1) (fun y A outer s H vs Q E hr hy h=>⟨_,body y f cdv A outer s H hr hy,?_⟩),m,kp,b⟩
 obtain ⟨hn,A',ds,d,al,hd,e,q⟩:=h
 obtain ⟨r,e1,e2⟩:=bind1 e
 refine ⟨H,[],A',_,r,Rel.start al hd (fun i hi=>by have:=hO i hi; rw [<- hd.len,hn]; exact this),Fx.start al,e1,?_⟩
 cases r with
 | nx δ=>cases e2; exact fun U σ H' R F'=>q .non H' F'.same .non
 | rt d=>cases e2; exact ⟨fun v H' h=>by unfold RetR at h; rw [if_neg Bool.false_ne_true] at h; exact q v H' h.1 h.2,fun _ _ _ _=>trivial⟩
 | bk _=>cases e2
 | ct _=>cases e2
end
set_option tactic.hygienic true in
theorem zml {X:Cx} {O:List Nat} {y:Addr} {k kk n:Nat} {ps:List Str} {G:Addr->List D->Option D} {x:Str} {p pos:Pos} {e:Expr} {es:List Expr} {gr:DS->Option (List D)} (F:DnW X.prog X.w X.K X.mg X.base k x ps (fun y=>spD X.K n (G y))) (hr:RoomX kk X.A) (hk:k<=kk) (hy:X.A.handled=some (.ref y))
  (ha:PA X (e :: es) (tAs X.K O gr)) (hg:Gl X x:=by rfl) (hdb:(x == ("__debug__":Str))=false:=by decide) (he:starEach (e :: es) X.env=(false,eval e X.env) :: starEach es X.env:=by rfl) (hpl:(backTo pos (starEach es X.env)).any (·.1)=false:=by rfl):
  PE X (.Call (.Name x p) (e :: es) [] pos) (tE X.K O (gCall (G y) n gr)):=by
 obtain ⟨f,fd,F,hm,kp,hb⟩:=F
 rintro pins s σ H Q I ⟨U,A0,δ,d,R,ed,q⟩
 obtain ⟨ds,e1,e2⟩:=bind1 ed
 split at e2
 rotate_left
 ·cases e2
 rename_i hn
 refine wpAny_Call_Name_kw (zeq I hg hm ?_ hdb)
 refine callWith_K (h₀:=X.base) I.ok.mod.kin kp (thn (ha pos pins s σ H (fun vs H1=>spD X.K n (G y) vs H1 Q E0) I ⟨U,A0,δ,ds,R,e1,fun vs H' s h=>⟨by rw [h.len]; exact hn,U ++ A0,ds,d,(R.same s).al,h,e2,fun v H2 s2 h2=>q v H2 (s.trans s2) h2⟩⟩) fun us s1 ⟨vs,H1,I1,r,q⟩=>⟨I1.kIn,?_⟩) he hpl
 have hlen:us.length=ps.length:=by rw [<- r.length]; exact F.len _ _ _ _ _ q
 refine wpAny_call (codeAny_mono (F.run y X.A X.stack s1 H1 ⟨us,[]⟩ us vs _ _ (hr.mono hk) hy I1.env0 (by have:=hb s1 us I1.kIn (by rw [List.append_nil]; exact hlen); rwa [List.append_nil] at this) r q) fun rr s' hq=>?_)
 cases rr with
 | error v=>exact False.elim hq
 | ok fl=>
   cases fl with
   | ret u=>exact I1.after hq
   | next=>exact False.elim hq
   | brk=>exact False.elim hq
   | cont=>exact False.elim hq
noncomputable def handOf (cs:List Str) (f:Str->D):Str->Option D:=fun c=>if c∈cs then some (f c) else none
theorem zeR {cs:List Str} {f:Str->D} {c:Str} {d:D} (h:handOf cs f c=some d):c∈cs /\ d=f c:=by
 unfold handOf at h
 split at h
 ·cases h; exact ⟨by assumption,rfl⟩
 ·cases h
theorem zjG {cs:List Str} {f:Str->D} {c:Str} {d:D} (h:handOf cs f c=some d):c∈cs:=(zeR h).1
theorem zon {W:List D->Option D} {i:Nat} {δ:DS} {x d:D} (e:gVar i δ=some x) (h:W [x]=some d):gRet (gCall W 1 (gConsA (gVar i) gNilA)) δ=some (.rt d):=by
 have e2:gCall W 1 (gConsA (gVar i) gNilA) δ=some d:=by
  unfold gCall gConsA gNilA
  rw [e]
  exact h
 unfold gRet
 rw [e2]; rfl
noncomputable def ClTs (K:Frag) (mg:Str->Option Value) (cs TS:List Str):Prop:=∀ T∈TS,∃ C,mg T=some (.ref C) /\ ClT K cs T (.ref C)
noncomputable def ClEs (K:Frag) (mg:Str->Option Value) (L:Addr) (cs:List Str):Prop:=∀ c∈cs,∃ C,nsIn K mainGlobals c=some (some (.ref C)) /\ mg c=some (.ref C) /\ exmOne K (.ref C) (.ref L)=some true
theorem zhw {X:Cx} {O:List Nat} {e:Expr} {ga:DS->Option D} {pos p p2:Pos} {T:Str} (cs TS:List Str) (CT:ClTs X.K X.mg cs TS) (hTS:T∈TS) (hB:X.mg "isinstance"=none) (ha:PE X e (tSh X.K O ga)) (hgT:Gl X T:=by rfl) (hdT:(T == ("__debug__":Str))=false:=by decide) (hg:Gl X "isinstance":=by rfl)
  (he:starEach [e,.Name T p2] X.env=(false,eval e X.env) :: starEach [.Name T p2] X.env:=by rfl) (he2:starEach [.Name T p2] X.env=(false,eval (.Name T p2) X.env) :: starEach [] X.env:=by rfl) (hpl:(backTo pos (starEach [.Name T p2] X.env)).any (·.1)=false:=by rfl):
  PE X (.Call (.Name "isinstance" p) [e,.Name T p2] [] pos) (tE X.K O (gIsiX cs T ga)):=by
 obtain ⟨C,m,k⟩:=CT T hTS
 exact zle cs hB ha (zeN (v:=.ref C) ⟨_,m,rfl⟩ hgT hdT) (fun u r=>r) k hg he he2 hpl
noncomputable def isCls:Option Obj->Bool
 | some ⟨_,_,.cls _,_⟩=>true
 | _=>false
noncomputable def xclsB (K:Frag) (C:Addr):Bool:=isCls (K.lookup C) && subIn K (.ref C) (.type "object") == some true && subIn K (.ref C) (.type "BaseException") == some true && findIn K (.ref C) "__class__" == some (some (.builtin "object.__class__")) &&
 findIn K (.ref C) "__getattribute__" == some (some (.builtin "BaseException.__getattribute__")) && findIn K (.ref C) "__getattr__" == some none
theorem znX {K:Frag} {C:Addr} (q:xclsB K C=true):XCls K C:=by
 unfold xclsB at q
 simp only [Bool.and_eq_true,beq_iff_eq] at q
 obtain ⟨⟨⟨⟨⟨a,b⟩,c⟩,d⟩,e⟩,f⟩:=q
 refine ⟨?_,b,c,d,e,f⟩
 unfold isCls at a
 split at a
 ·exact ⟨_,_,_,_,by assumption⟩
 ·cases a
noncomputable def refOf:Option (Option Value)->Option Addr
 | some (some (.ref C))=>some C
 | _=>none
theorem zfx {v:Option (Option Value)} {C:Addr} (h:refOf v=some C):v=some (some (.ref C)):=by
 unfold refOf at h
 split at h
 ·cases h; rfl
 ·cases h
noncomputable def clsB (K:Frag) (L:Addr) (cs TS:List Str):Bool:=(TS.all fun T=>(refOf (nsIn K mainGlobals T)).isSome) && cs.all fun c=>match refOf (nsIn K mainGlobals c) with
 | some C=>xclsB K C && exmOne K (.ref C) (.ref L) == some true && kitOne K (.ref C) (.type "ValueError") == some true && TS.all fun T=>match refOf (nsIn K mainGlobals T) with
   | some CT=>kitOne K (.ref C) (.ref CT) == some (isX c T)
   | none=>false
 | none=>false
section
variable {K:Frag} {L:Addr} {cs TS:List Str} {c:Str} {h:Heap} {mg:Str->Option Value}
set_option tactic.hygienic true in
theorem zfF (q:clsB K L cs TS=true) (hc:c∈cs):∃ C,nsIn K mainGlobals c=some (some (.ref C)) /\ XCls K C /\ exmOne K (.ref C) (.ref L)=some true /\ kitOne K (.ref C) (.type "ValueError")=some true /\
  ∀ T∈TS,∀ CT,nsIn K mainGlobals T=some (some (.ref CT))->kitOne K (.ref C) (.ref CT)=some (isX c T):=by
 unfold clsB at q
 rw [Bool.and_eq_true] at q
 have q1:=List.all_eq_true.mp q.2 c hc
 split at q1
 ·rename_i C hC
  simp only [Bool.and_eq_true,beq_iff_eq] at q1
  obtain ⟨⟨⟨a,b⟩,d⟩,e⟩:=q1
  refine ⟨C,zfx hC,znX a,b,d,fun T hT CT hCT=>?_⟩
  have e1:=List.all_eq_true.mp e T hT
  rw [hCT] at e1
  exact beq_iff_eq.mp e1
 ·cases q1
theorem zoH (X:K.In h) (G:h.Ns mainGlobals mg) (q:clsB K L cs TS=true):ClTs K mg cs TS:=fun T hT=>by
 have q0:=q
 unfold clsB at q0
 rw [Bool.and_eq_true] at q0
 have q1:=List.all_eq_true.mp q0.1 T hT
 obtain ⟨CT,hCT⟩:=Option.isSome_iff_exists.mp q1
 have hn:=zfx hCT
 refine ⟨CT,mg_of X G hn,fun c hc C hC=>?_⟩
 obtain ⟨C',h1,h2,_,_,h5⟩:=zfF q hc
 rw [hC] at h1
 cases h1
 exact ⟨h2,h5 T hT CT hn⟩
theorem zot (q:clsB K L cs TS=true):ClT K cs "ValueError" (.type "ValueError"):=fun c hc C hC=>by
 obtain ⟨C',h1,h2,_,h4,_⟩:=zfF q hc
 rw [hC] at h1
 cases h1
 refine ⟨h2,h4.trans ?_⟩
 unfold isX
 simp
theorem zoh (X:K.In h) (G:h.Ns mainGlobals mg) (q:clsB K L cs TS=true):ClEs K mg L cs:=fun c hc=>by
 obtain ⟨C,h1,_,h3,_⟩:=zfF q hc
 exact ⟨C,h1,mg_of X G h1,h3⟩
theorem zkU (X:K.In h):(offC K).In h:=fun b o e=>by
 rw [zcx] at e
 split at e
 ·exact X b o e
 ·cases e
end
theorem zqN:bootBuiltins "ValueError"=some (.type "ValueError"):=by decide +kernel
noncomputable abbrev VE:List Value:=[.type "ValueError",.type "Exception",.type "BaseException",.type "object"]
end L2
namespace L2
open PySem PySem.Spec PySem.W PyProof.Rows
noncomputable def gIsiX3 (cs:List Str) (T1 T2 T3:Str) (g:DS->Option D):DS->Option D:=fun δ=>(g δ).bind fun d=>(exP d).bind fun y=>if y.2∈cs then some (.bool (isX y.2 T1 || (isX y.2 T2 || (isX y.2 T3 || false)))) else none
theorem zc8 {K:Frag} {t v:Value} {r:List Value} {b c:Bool} (h:kitOne K t v=some b) (h2:kitAny K t r=some c):kitAny K t (v :: r)=some (b || c):=by
 rw [kitAny,h]
 cases b
 ·exact h2
 ·rfl
set_option tactic.hygienic true in
theorem zni {X:Cx} {O:List Nat} {e:Expr} {ga:DS->Option D} {pos p p1 p2 p3 pt:Pos} {st:Nat} {T1 T2 T3:Str} (cs TS:List Str) (CT:ClTs X.K X.mg cs TS) (m1:T1∈TS) (m2:T2∈TS) (m3:T3∈TS) (hB:X.mg "isinstance"=none) (ha:PE X e (tSh X.K O ga))
  (g1:Gl X T1:=by rfl) (g2:Gl X T2:=by rfl) (g3:Gl X T3:=by rfl) (d1:(T1 == ("__debug__":Str))=false:=by decide) (d2:(T2 == ("__debug__":Str))=false:=by decide) (d3:(T3 == ("__debug__":Str))=false:=by decide) (hg:Gl X "isinstance":=by rfl)
  (he:starEach [e,.Tuple [.Name T1 p1,.Name T2 p2,.Name T3 p3] st pt] X.env=(false,eval e X.env) :: starEach [.Tuple [.Name T1 p1,.Name T2 p2,.Name T3 p3] st pt] X.env:=by rfl) (hpl:(backTo pos (starEach [.Tuple [.Name T1 p1,.Name T2 p2,.Name T3 p3] st pt] X.env)).any (·.1)=false:=by rfl):
  PE X (.Call (.Name "isinstance" p) [e,.Tuple [.Name T1 p1,.Name T2 p2,.Name T3 p3] st pt] [] pos) (tE X.K O (gIsiX3 cs T1 T2 T3 ga)):=by
 obtain ⟨C1,q1,k1⟩:=CT T1 m1
 obtain ⟨C2,q2,k2⟩:=CT T2 m2
 obtain ⟨C3,q3,k3⟩:=CT T3 m3
 refine (zdr zgb hg hB zcz (zZ ha (zZ (znp (zZ (zeN (v:=.ref C1) ⟨_,q1,rfl⟩ g1 d1) (zZ (zeN (v:=.ref C2) ⟨_,q2,rfl⟩ g2 d2) (zZ (zeN (v:=.ref C3) ⟨_,q3,rfl⟩ g3 d3) za2 rfl) rfl) rfl)) za2 rfl) he) (by decide) (by decide) he hpl).mono ?_
 rintro σ H Q ⟨U,A0,δ,d,R,ed,q⟩
 obtain ⟨x,e1,e2⟩:=bind1 ed
 obtain ⟨y,e3,e4⟩:=bind1 e2
 split at e4
 ·rename_i hz
  cases e4
  refine ⟨U,A0,δ,_,R,e1,fun v H' s h=>⟨Nat.le_trans (m:=3) (Nat.le_refl 3) (by decide),fun tp hp=>?_⟩⟩
  obtain ⟨a,C,_,rfl,hns,hH⟩:=h.excP e3
  obtain ⟨xc,kt1⟩:=k1 _ hz C hns
  have kt2:=(k2 _ hz C hns).2
  have kt3:=(k3 _ hz C hns).2
  refine ⟨a,C,.ref tp,_,rfl,z9 hp _ _ _ hH,xc,q _ _ (s.trans (z9 hp _)) (.bl _),.inr ⟨tp,_,rfl,z8,fun its rv=>?_⟩⟩
  cases rv with
  | cons r1 rv=>cases rv with
    | cons r2 rv=>cases rv with
      | cons r3 rv=>
        cases rv
        cases r1; cases r2; cases r3
        exact zc8 kt1 (zc8 kt2 (zc8 kt3 rfl))
 ·cases e4
end L2
namespace Q1
structure IsQ (n d t b:Int):Prop where
 pos:1<=d
 cop:Int.gcd n d=1
 eq:n * b=t * d
theorem zig {a b:Int}:Int.gcd a b=1↔Nat.Coprime a.natAbs b.natAbs:=Iff.rfl
theorem zb5 {a b:Int} (h:Int.gcd a b=1):Int.gcd b a=1:=by rw [Int.gcd_comm]; exact h
theorem zl3 {a b c:Int} (h1:Int.gcd a c=1) (h2:Int.gcd b c=1):Int.gcd (a * b) c=1:=by
 rw [zig] at *
 rw [Int.natAbs_mul]
 exact Nat.Coprime.mul_left h1 h2
theorem ziB {a b c:Int} (h1:Int.gcd a b=1) (h2:Int.gcd a c=1):Int.gcd a (b * c)=1:=zb5 (zl3 (zb5 h1) (zb5 h2))
theorem zhP {a b c:Int} (h:Int.gcd b c=1) (d:a ∣ b):Int.gcd a c=1:=by
 rw [zig] at *
 exact Nat.Coprime.coprime_dvd_left (Int.natAbs_dvd_natAbs.mpr d) h
theorem ziO {a b c:Int} (h:Int.gcd c b=1) (d:a ∣ b):Int.gcd c a=1:=zb5 (zhP (zb5 h) d)
theorem zcR {a b c:Int} (h:Int.gcd a b=1) (d:a ∣ b * c):a ∣ c:=by
 rw [zig] at h
 rw [<- Int.natAbs_dvd_natAbs] at *
 rw [Int.natAbs_mul] at d
 exact Nat.Coprime.dvd_of_dvd_mul_left h d
theorem IsQ.dvd_top {n d t b:Int} (h:IsQ n d t b):n ∣ t:=zcR h.cop ⟨b,by rw [h.eq]; exact Int.mul_comm _ _⟩
theorem IsQ.dvd_bot {n d t b:Int} (h:IsQ n d t b):d ∣ b:=zcR (zb5 h.cop) ⟨t,by rw [h.eq]; exact Int.mul_comm _ _⟩
theorem zaS {a b:Int} (h:a ∣ b) (hb:b≠0):a.natAbs<=b.natAbs:=Nat.le_of_dvd (by omega) (Int.natAbs_dvd_natAbs.mpr h)
theorem IsQ.top_le {n d t b:Int} (h:IsQ n d t b) (hb:b≠0):n.natAbs<=t.natAbs:=by
 by_cases ht:t=0
 ·have e:=h.eq
  rw [ht,Int.zero_mul] at e
  rcases Int.mul_eq_zero.mp e with z | z
  ·rw [z,ht]; exact Nat.le_refl _
  ·exact absurd z hb
 ·exact zaS h.dvd_top ht
theorem IsQ.bot_le {n d t b:Int} (h:IsQ n d t b) (hb:b≠0):d.natAbs<=b.natAbs:=zaS h.dvd_bot hb
theorem IsQ.uniq {n d n' d' t b:Int} (h:IsQ n d t b) (h':IsQ n' d' t b) (hb:b≠0):n=n' /\ d=d':=by
 have e:n * d'=n' * d:=by
  have e1:=h.eq
  have e2:=h'.eq
  have:b * (n * d')=b * (n' * d):=by grind
  exact Int.eq_of_mul_eq_mul_left hb this
 have hd:d=d':=by
  have a1:d ∣ d':=zcR (zb5 h.cop) ⟨n',by rw [e]; exact Int.mul_comm _ _⟩
  have a2:d' ∣ d:=zcR (zb5 h'.cop) ⟨n,by rw [<- e]; exact Int.mul_comm _ _⟩
  have p:=h.pos
  have p':=h'.pos
  have b1:=zaS a1 (by omega)
  have b2:=zaS a2 (by omega)
  omega
 subst hd
 have p:=h.pos
 exact ⟨Int.eq_of_mul_eq_mul_right (by omega) e,rfl⟩
theorem zkT {t b:Int} (hb:b≠0):∃ t' b':Int,0 < (Int.gcd t b:Int) /\ t=t' * (Int.gcd t b:Int) /\ b=b' * (Int.gcd t b:Int) /\ Int.gcd t' b'=1:=by
 have hp:0 < Int.gcd t b:=Int.gcd_pos_of_ne_zero_right _ hb
 refine ⟨t / (Int.gcd t b:Int),b / (Int.gcd t b:Int),by omega,(Int.ediv_mul_cancel (Int.gcd_dvd_left _ _)).symm,(Int.ediv_mul_cancel (Int.gcd_dvd_right _ _)).symm,Int.gcd_ediv_gcd_ediv_gcd hp⟩
noncomputable def dv (t b:Int):Int:=if b < 0 then -(Int.gcd t b:Int) else (Int.gcd t b:Int)
theorem zqS {t b:Int} (hb:b≠0):dv t b≠0:=by
 have hp:0 < Int.gcd t b:=Int.gcd_pos_of_ne_zero_right _ hb
 unfold dv; split <;> omega
theorem zpj {t b:Int} (hb:b≠0):IsQ (t.fdiv (dv t b)) (b.fdiv (dv t b)) t b:=by
 obtain ⟨t',b',hp,et,eb,c⟩:=zkT (t:=t) hb
 unfold dv
 generalize (Int.gcd t b:Int)=g at *
 subst et eb
 by_cases hs:b' * g < 0
 ·rw [if_pos hs]
  have e1:(t' * g).fdiv (-g)= -t':=by
   have:t' * g=(-t') * (-g):=by grind
   rw [this]; exact Int.mul_fdiv_cancel _ (by omega)
  have e2:(b' * g).fdiv (-g)= -b':=by
   have:b' * g=(-b') * (-g):=by grind
   rw [this]; exact Int.mul_fdiv_cancel _ (by omega)
  rw [e1,e2]
  have hb':b' < 0:=by
   rcases Int.lt_trichotomy b' 0 with z | z | z
   ·exact z
   ·subst z; simp at hb
   ·have:=Int.mul_pos z hp; omega
  refine ⟨by omega,?_,by grind⟩
  rw [Int.neg_gcd,Int.gcd_neg]; exact c
 ·rw [if_neg hs]
  rw [Int.mul_fdiv_cancel _ (by omega),Int.mul_fdiv_cancel _ (by omega)]
  have hb':0 < b':=by
   rcases Int.lt_trichotomy b' 0 with z | z | z
   ·exact absurd (Int.mul_neg_of_neg_of_pos z hp) hs
   ·subst z; simp at hb
   ·exact z
  exact ⟨by omega,c,by grind⟩
theorem zmu {n1 d1 n2 d2 l0 l1 r0 r1:Int} (h1:Int.gcd n1 d1=1) (h2:Int.gcd n2 d2=1) (hl:IsQ l0 l1 n1 d2) (hr:IsQ r0 r1 n2 d1):IsQ (l0 * r0) (l1 * r1) (n1 * n2) (d1 * d2):=by
 have p1:=hl.pos
 have p2:=hr.pos
 have e1:=hl.eq
 have e2:=hr.eq
 refine ⟨?_,zl3 (ziB hl.cop ?_) (ziB ?_ hr.cop),?_⟩
 ·have:=Int.mul_pos (show 0 < l1 by omega) (show 0 < r1 by omega); omega
 ·exact zhP (ziO h1 hr.dvd_bot) hl.dvd_top
 ·exact zhP (ziO h2 hl.dvd_bot) hr.dvd_top
 ·grind
end Q1
namespace Q1
noncomputable def qmk (t b:Int):Int×Int:=(t.fdiv (dv t b),b.fdiv (dv t b))
theorem zlY {t b:Int} (hb:b≠0):IsQ (qmk t b).1 (qmk t b).2 t b:=zpj hb
theorem IsQ.qm {n d t b:Int} (h:IsQ n d t b) (hb:b≠0):(n,d)=qmk t b:=by
 obtain ⟨a,c⟩:=h.uniq (zlY hb) hb
 exact Prod.ext a c
noncomputable abbrev Qz:Int×Int:=(0,1)
noncomputable def trim (l:List (Int×Int)):List (Int×Int):=(l.reverse.dropWhile (fun q=>decide (q=Qz))).reverse
theorem zpV (l:List (Int×Int)):trim (l ++ [Qz])=trim l:=by
 unfold trim
 rw [List.reverse_append]
 simp
theorem zpo (l:List (Int×Int)) {q:Int×Int} (h:q≠Qz):trim (l ++ [q])=l ++ [q]:=by
 unfold trim
 rw [List.reverse_append]
 simp [h]
theorem zi9 (l:List (Int×Int)):l=[] \/ ∃ m q,l=m ++ [q]:=by
 rcases List.eq_nil_or_concat l with h | ⟨m,q,h⟩
 ·exact .inl h
 ·exact .inr ⟨m,q,by rw [h]; simp⟩
noncomputable def qmul (a b:Int×Int):Int×Int:=qmk (a.1 * b.1) (a.2 * b.2)
noncomputable def at0 (l:List (Int×Int)) (k:Nat):Int×Int:=l.getD k Qz
noncomputable def pscale (l:List (Int×Int)) (q:Int×Int):List (Int×Int):=trim (l.map fun a=>qmul a q)
noncomputable def Low (q:Int×Int):Prop:=1<=q.2 /\ Int.gcd q.1 q.2=1
end Q1
namespace Q1
end Q1
namespace Q1
noncomputable def tab (n:Nat) (T:Nat->Int):List Int:=(List.range n).map T
theorem zn0 {n p:Nat} {T:Nat->Int} {v:Int}:(tab n T).set p v=tab n fun k=>if p=k then v else T k:=by
 unfold tab
 apply List.ext_getElem?
 intro i
 by_cases hi:i < n
 ·by_cases e:p=i
  ·subst e
   rw [List.getElem?_set_self (by simpa using hi),List.getElem?_map,List.getElem?_range hi]; simp
  ·rw [List.getElem?_set_ne e,List.getElem?_map,List.getElem?_map,List.getElem?_range hi]; simp [e]
 ·rw [List.getElem?_eq_none (by simpa using hi),List.getElem?_eq_none (by simpa using hi)]
theorem zn8 {n p:Nat} {T:Nat->Int} (h:p < n):(tab n T)[p]?=some (T p):=by
 unfold tab; rw [List.getElem?_map,List.getElem?_range h]; rfl
theorem zlO {n:Nat} {T:Nat->Int}:(tab n T).length=n:=by unfold tab; simp
theorem zeW {n:Nat} {T S:Nat->Int} (h:∀ k,k < n->T k=S k):tab n T=tab n S:=List.map_congr_left fun k hk=>h k (List.mem_range.mp hk)
noncomputable def lcmL:List (Int×Int)->Nat->Nat
 | [],B=>B
 | q :: l,B=>lcmL l (Nat.lcm B q.2.natAbs)
theorem zee:∀ (l:List (Int×Int)) (B:Nat),0 < B->(∀ q∈l,q.2≠0)->0 < lcmL l B
 | [],_,h,_=>h
 | a :: l,B,h,hq=>zee l _ (Nat.lcm_pos h (by have:=hq a List.mem_cons_self; omega)) fun q z=>hq q (List.mem_cons_of_mem _ z)
theorem zlT {M:Nat} (hM:1<=M):∀ (l:List (Int×Int)) (B:Nat),(∀ q∈l,q.2.natAbs<=M)->lcmL l B<=B * M ^ l.length
 | [],B,_=>by simp [lcmL]
 | a :: l,B,h=>by
   have ih:=zlT hM l (Nat.lcm B a.2.natAbs) fun q z=>h q (List.mem_cons_of_mem _ z)
   rw [lcmL,List.length_cons,Nat.pow_succ]
   refine Nat.le_trans ih ?_
   have h1:Nat.lcm B a.2.natAbs<=B * M:=Nat.le_trans (Nat.div_le_self _ _) (Nat.mul_le_mul_left _ (h a List.mem_cons_self))
   calc Nat.lcm B a.2.natAbs * M ^ l.length<=(B * M) * M ^ l.length:=Nat.mul_le_mul_right _ h1
    _=B * (M ^ l.length * M):=by rw [Nat.mul_assoc,Nat.mul_comm M]
theorem zm0 (l m:List (Int×Int)) (B:Nat):lcmL (l ++ m) B=lcmL m (lcmL l B):=by
 induction l generalizing B with
 | nil=>rfl
 | cons a l ih=>rw [List.cons_append,lcmL,ih,lcmL]
end Q1
namespace Q1
noncomputable def pTop (ts:List Int) (B:Int):List (Int×Int):=trim (ts.map fun t=>qmk t B)
end Q1
namespace K06
noncomputable def ch:Nat->Nat->Nat
 | _,0=>1
 | 0,_ + 1=>0
 | n + 1,k + 1=>ch n k + ch n (k + 1)
theorem ze0 (n:Nat):ch n 0=1:=by cases n <;> rfl
theorem zjv:∀ n k,n < k->ch n k=0
 | _,0,h=>absurd h (Nat.not_lt_zero _)
 | 0,_ + 1,_=>rfl
 | n + 1,k + 1,h=>by
   show ch n k + ch n (k + 1)=0
   rw [zjv n k (by omega),zjv n (k + 1) (by omega)]
theorem zeP:∀ n k,k<=n->(k + 1) * ch n (k + 1)=(n - k) * ch n k
 | 0,k,h=>by
   have:k=0:=by omega
   subst this; rfl
 | n + 1,0,_=>by
   show (0 + 1) * (ch n 0 + ch n 1)=(n + 1 - 0) * ch (n + 1) 0
   have ih:=zeP n 0 (Nat.zero_le _)
   rw [ze0] at ih
   rw [ze0,ze0]
   have ih':(0 + 1) * ch n 1=(n - 0) * 1:=ih
   simp only [Nat.zero_add,Nat.one_mul,Nat.sub_zero,Nat.mul_one] at ih' ⊢
   omega
 | n + 1,k + 1,h=>by
   show (k + 1 + 1) * (ch n (k + 1) + ch n (k + 1 + 1))=(n + 1 - (k + 1)) * (ch n k + ch n (k + 1))
   have i1:=zeP n k (by omega)
   have e:n + 1 - (k + 1)=n - k:=by omega
   rw [e,Nat.mul_add,Nat.mul_add,<- i1]
   by_cases hk:k + 1<=n
   ·have i2:=zeP n (k + 1) hk
    rw [i2,<- Nat.add_mul,<- Nat.add_mul]
    congr 1
    omega
   ·have hk':k=n:=by omega
    subst hk'
    rw [zjv k (k + 1) (by omega),zjv k (k + 1 + 1) (by omega)]
    simp
noncomputable def sg (k:Nat):Int:=1 - 2 * ((k:Int) % 2)
theorem zo2 (k:Nat):sg (k + 1)= - sg k:=by unfold sg; omega
noncomputable def tp (n k:Nat):Int:=(ch n k:Int) * sg k
theorem zdQ (n:Nat):tp n 0=1:=by unfold tp; rw [ze0]; rfl
theorem zl2 (n k:Nat) (h:k<=n): -(tp n k) * ((n:Int) - (k:Int)) / ((k:Int) + 1)=tp n (k + 1):=by
 have e: -(tp n k) * ((n:Int) - (k:Int))=tp n (k + 1) * ((k:Int) + 1):=by
  unfold tp
  rw [zo2]
  have i:=zeP n k h
  have i':((k:Int) + 1) * (ch n (k + 1):Int)=((n:Int) - (k:Int)) * (ch n k:Int):=by
   have:(((k + 1) * ch n (k + 1):Nat):Int)=(((n - k) * ch n k:Nat):Int):=by rw [i]
   rw [Int.natCast_mul,Int.natCast_mul,Int.natCast_sub h] at this
   simpa using this
  have a1: -((ch n k:Int) * sg k) * ((n:Int) - (k:Int))= -(((n:Int) - (k:Int)) * (ch n k:Int) * sg k):=by
   rw [Int.neg_mul,Int.mul_right_comm,Int.mul_comm (ch n k:Int)]
  have a2:(ch n (k + 1):Int) * -sg k * ((k:Int) + 1)= -(((k:Int) + 1) * (ch n (k + 1):Int) * sg k):=by
   rw [Int.mul_neg,Int.neg_mul,Int.mul_right_comm,Int.mul_comm (ch n (k + 1):Int)]
  rw [a1,a2,i']
 rw [e]
 exact Int.mul_ediv_cancel _ (by omega)
noncomputable def row (n:Nat):List Int:=(List.range (n + 1)).map fun j=>(ch n j:Int)
end K06
namespace MyLaw
open PySem L2 Q1
noncomputable abbrev bt (x:Int):Nat:=Builtin.Int.intBits x
theorem zcF {m:Nat} {x:Int} (h:x.natAbs < 2 ^ m):bt x<=m:=intBits_le_iff.mpr h
theorem zqV {m:Nat} {x:Int} (h:bt x<=m):x.natAbs < 2 ^ m:=intBits_le_iff.mp h
theorem zcY {m n:Nat} {x y:Int} (h1:bt x<=m) (h2:bt y<=n):bt (x * y)<=m + n:=intBits_mul_le h1 h2
theorem zf9 {m:Nat} {x y:Int} (h:x.natAbs<=y.natAbs) (hy:bt y<=m):bt x<=m:=intBits_le_of_natAbs h hy
theorem zbt {m n:Nat} {x:Int} (h:bt x<=m) (h2:m<=n):bt x<=n:=Nat.le_trans h h2
theorem mulOk {m n:Nat} {x y:Int} (h1:bt x<=m) (h2:bt y<=n) (h:m + n<=134217728:=by omega):IntMulOk x y:=IntMulOk.of_le h1 h2 h
theorem zlV (i:Int):(if i < 0 then -i else i)=(i.natAbs:Nat):=by split <;> omega
theorem zcf {a b:Int} (h:IntMulOk a b):dMulI (.int a) (.int b)=some (.int (a * b)):=zgR h
theorem zbw {a b:Int} (h:0 < b):dMod (.int a) (.int b)=some (.int (a % b)):=by
 rw [<- Int.fmod_eq_emod_of_nonneg _ (Int.le_of_lt h)]
 exact zgR (C:=fun _ j=>j≠0) (by omega)
theorem zh8 {a b:Int} (h:0 < b) (hb:bt b<=9000):dDiv (.int a) (.int b)=some (.int (a / b)):=by
 rw [<- Int.fdiv_eq_ediv_of_nonneg _ (Int.le_of_lt h)]
 exact zgR (C:=CDivS) ⟨by omega,zgG hb⟩
theorem znO {a b:Int} (h:b≠0) (hb:bt b<=9000):dDiv (.int a) (.int b)=some (.int (a.fdiv b)):=zgR (C:=CDivS) ⟨h,zgG hb⟩
theorem zp4 {a:Int} {k:Nat} (h:a.natAbs < 2 ^ 64) (hk:k<=1000000):dPow (.int a) (.int k)=some (.int (a ^ k)):=by
 have:=zgR (C:=CPow) (g:=fun i j=>.int (i ^ j.toNat)) (a:=a) (b:=k) ⟨by omega,by omega,h⟩
 simpa using this
theorem atI0 {α:Type} {x:α} {xs:List α}:atI (x :: xs) 0=some x:=zdC (j:=0) rfl
theorem atI1 {α:Type} {x y:α} {xs:List α}:atI (x :: y :: xs) 1=some y:=zdC (j:=1) rfl
theorem atIlast {α:Type} {xs:List α} {x:α} (h:xs[xs.length - 1]?=some x):atI xs (-1)=some x:=zmh h
noncomputable def Gets {β:Type} (x:Option β) (P:β->Prop):Prop:=∃ d,x=some d /\ P d
theorem zW {β:Type} {x:Option β} {d:β} (h:Gets x fun y=>y=d):x=some d:=by
 obtain ⟨y,e,rfl⟩:=h; exact e
theorem Gets.mk {β:Type} {x:Option β} {P:β->Prop} {d:β} (e:x=some d) (h:P d):Gets x P:=⟨d,e,h⟩
theorem zcu {a b:DS->Option Res} {δ δ':DS} (h:a δ=some (.nx δ')):gSeq a b δ=b δ':=by
 unfold gSeq; rw [h]; rfl
theorem zk4 {a b:DS->Option Res} {δ:DS} {d:D} (h:a δ=some (.rt d)):gSeq a b δ=some (.rt d):=by
 unfold gSeq; rw [h]; rfl
theorem zjM {c:DS->Option Bool} {b:DS->Option Res} (W:Nat->DS->Prop) (Z:DS->Prop) (m:Nat) {δ:DS} (h:W m δ)
  (hs:∀ m δ,W m δ->(c δ=some false /\ Z δ) \/ (c δ=some true /\ ∃ δ' m',b δ=some (.nx δ') /\ m' < m /\ W m' δ')):∃ δ',gWhile c b δ=some (.nx δ') /\ Z δ':=by
 obtain ⟨q,h1,δ',rfl,h2⟩:=zli W (fun _ q=>∃ δ',q=.nx δ' /\ Z δ') m δ h (fun m δ hW=>by
  rcases hs m δ hW with ⟨a,z⟩ | ⟨a,δ',m',e,l,w⟩
  ·exact .inl ⟨a,δ,rfl,z⟩
  ·exact .inr ⟨a,.inl ⟨δ',m',.inl e,l,w,fun q hq=>hq⟩⟩)
 exact ⟨δ',h1,h2⟩
theorem ziI {t:D->DS->Option DS} {b:DS->Option Res} (W:Nat->DS->Prop):∀ (ds:List D) (k:Nat) {δ:DS},W k δ->(∀ i d δ,ds[i]?=some d->W (k + i) δ->∃ δ1 δ',t d δ=some δ1 /\ b δ1=some (.nx δ') /\ W (k + i + 1) δ')->
  ∃ δ',forD t b ds δ=some (.nx δ') /\ W (k + ds.length) δ'
 | [],k,δ,h,_=>⟨δ,rfl,h⟩
 | d :: ds,k,δ,h,hs=>by
   obtain ⟨δ1,δ',e1,e2,h'⟩:=hs 0 d δ rfl h
   obtain ⟨δ2,e3,h2⟩:=ziI W ds (k + 1) h' (fun i d δ e w=>by
    have:=hs (i + 1) d δ (by simpa using e) (by rw [show k + (i + 1)=k + 1 + i by omega]; exact w)
    rw [show k + (i + 1) + 1=k + 1 + i + 1 by omega] at this
    exact this)
   refine ⟨δ2,?_,by rw [List.length_cons,show k + (ds.length + 1)=k + 1 + ds.length by omega]; exact h2⟩
   rw [forD,e1,Option.bind_some,e2,Option.bind_some]
   exact e3
theorem zev {α:Type} {t:D->DS->Option DS} {b:DS->Option Res} (enc:α->D) (W:Nat->DS->Prop) (xs:List α) {δ:DS} (h:W 0 δ)
  (hs:∀ i x δ,xs[i]?=some x->W i δ->∃ δ1 δ',t (enc x) δ=some δ1 /\ b δ1=some (.nx δ') /\ W (i + 1) δ'):∃ δ',forD t b (xs.map enc) δ=some (.nx δ') /\ W xs.length δ':=by
 obtain ⟨δ',e,w⟩:=ziI (t:=t) (b:=b) W (xs.map enc) 0 h (fun i d δ e w=>by
  rw [List.getElem?_map] at e
  cases ex:xs[i]? with
  | none=>rw [ex] at e; cases e
  | some x=>
    rw [ex] at e; cases e
    rw [Nat.zero_add] at w ⊢
    exact hs i x δ ex w)
 rw [Nat.zero_add,List.length_map] at w
 exact ⟨δ',e,w⟩
theorem zmp {t:D->DS->Option DS} {b:DS->Option Res} {lo:Int} {n:Nat} (W:Nat->DS->Prop) {δ:DS} (h:W 0 δ)
  (hs:∀ i δ,i < n->W i δ->∃ δ1 δ',t (.int (lo + i)) δ=some δ1 /\ b δ1=some (.nx δ') /\ W (i + 1) δ'):∃ δ',forD t b (rangeD lo n) δ=some (.nx δ') /\ W n δ':=by
 obtain ⟨δ',e,w⟩:=zev (t:=t) (b:=b) (fun k:Nat=>PyData.int (lo + k)) W (List.range n) h (fun i x δ e w=>by
  have hi:=(List.getElem?_eq_some_iff.mp e).1
  rw [List.length_range] at hi
  rw [List.getElem?_range hi] at e
  cases e
  exact hs i δ hi w)
 rw [List.length_range] at w
 exact ⟨δ',e,w⟩
theorem zeH {c:DS->Option Bool} {b rest:DS->Option Res} {β:Type} {f:Res->Option β} {R:β->Prop} {δ:DS} (W:Nat->DS->Prop) (Z:DS->Prop) (m:Nat) (h:W m δ)
  (hs:∀ m δ,W m δ->(c δ=some false /\ Z δ) \/ (c δ=some true /\ ∃ δ' m',b δ=some (.nx δ') /\ m' < m /\ W m' δ')) (k:∀ δ',Z δ'->Gets ((rest δ').bind f) R):Gets ((gSeq (gWhile c b) rest δ).bind f) R:=by
 obtain ⟨δ',h1,h2⟩:=zjM W Z m h hs
 rw [zcu h1]
 exact k δ' h2
theorem zdN {α:Type} {t:D->DS->Option DS} {gi:DS->Option (List D)} {b rest:DS->Option Res} {β:Type} {f:Res->Option β} {R:β->Prop} {δ:DS} (enc:α->D) (xs:List α) (W:Nat->DS->Prop) (hi:gi δ=some (xs.map enc)) (h:W 0 δ)
  (hs:∀ i x δ,xs[i]?=some x->W i δ->∃ δ1 δ',t (enc x) δ=some δ1 /\ b δ1=some (.nx δ') /\ W (i + 1) δ') (k:∀ δ',W xs.length δ'->Gets ((rest δ').bind f) R):Gets ((gSeq (gFor gi t b) rest δ).bind f) R:=by
 obtain ⟨δ',h1,h2⟩:=zev (t:=t) (b:=b) enc W xs h hs
 rw [zcu (δ':=δ') (by unfold gFor; rw [hi]; exact h1)]
 exact k δ' h2
theorem zcT {t:D->DS->Option DS} {gi:DS->Option (List D)} {b rest:DS->Option Res} {β:Type} {f:Res->Option β} {R:β->Prop} {δ:DS} (lo:Int) (n:Nat) (W:Nat->DS->Prop) (hi:gi δ=some (rangeD lo n)) (h:W 0 δ)
  (hs:∀ i δ,i < n->W i δ->∃ δ1 δ',t (.int (lo + i)) δ=some δ1 /\ b δ1=some (.nx δ') /\ W (i + 1) δ') (k:∀ δ',W n δ'->Gets ((rest δ').bind f) R):Gets ((gSeq (gFor gi t b) rest δ).bind f) R:=by
 obtain ⟨δ',h1,h2⟩:=zmp (t:=t) (b:=b) W h hs
 rw [zcu (δ':=δ') (by unfold gFor; rw [hi]; exact h1)]
 exact k δ' h2
theorem zG {a rest:DS->Option Res} {β:Type} {f:Res->Option β} {R:β->Prop} {δ:DS} (δ':DS) (h:a δ=some (.nx δ')) (k:Gets ((rest δ').bind f) R):Gets ((gSeq a rest δ).bind f) R:=by
 rw [zcu h]; exact k
theorem zlQ {c:DS->Option Bool} {a rest:DS->Option Res} {β:Type} {f:Res->Option β} {R:β->Prop} {δ:DS} (h:c δ=some false) (k:Gets ((rest δ).bind f) R):Gets ((gSeq (gIf c a gSkip) rest δ).bind f) R:=by
 rw [zcu (δ':=δ) (by unfold gIf; rw [h]; rfl)]; exact k
theorem zdT {c:DS->Option Bool} {a b rest:DS->Option Res} {β:Type} {f:Res->Option β} {R:β->Prop} {δ:DS} (x:Bool) (h:c δ=some x) (k1:x=true->Gets ((gSeq a rest δ).bind f) R) (k2:x=false->Gets ((gSeq b rest δ).bind f) R):Gets ((gSeq (gIf c a b) rest δ).bind f) R:=by
 have e:gIf c a b δ=if x=true then a δ else b δ:=by unfold gIf; rw [h]; rfl
 cases x with
 | true=>rw [if_pos rfl] at e; have:=k1 rfl; unfold gSeq at this ⊢; rw [e]; exact this
 | false=>rw [if_neg Bool.false_ne_true] at e; have:=k2 rfl; unfold gSeq at this ⊢; rw [e]; exact this
theorem zda {g:DS->Option D} {rest:DS->Option Res} {β:Type} {f:Res->Option β} {R:β->Prop} {δ:DS} (d:D) (h:g δ=some d) (k:Gets (f (.rt d)) R):Gets ((gSeq (gRet g) rest δ).bind f) R:=by
 rw [zk4 (d:=d) (by unfold gRet; rw [h]; rfl)]; exact k
theorem ret {g:DS->Option D} {β:Type} {f:Res->Option β} {R:β->Prop} {δ:DS} (d:D) (h:g δ=some d) (k:Gets (f (.rt d)) R):Gets ((gRet g δ).bind f) R:=by
 unfold gRet; rw [h]; exact k
theorem zaq {a b:DS->Option Res} {δ:DS} {r:Option Res} (δ':DS) (h:a δ=some (.nx δ')) (k:b δ'=r):gSeq a b δ=r:=(zcu h).trans k
theorem ze2 {c:DS->Option Bool} {a:DS->Option Res} {δ:DS} (h:c δ=some false):gIf c a gSkip δ=some (.nx δ):=by unfold gIf; rw [h]; rfl
theorem zeg {rest:DS->Option Res} {δ:DS}:gSeq gSkip rest δ=rest δ:=rfl
theorem zhd {a b c:DS->Option Res} {δ:DS}:gSeq (gSeq a b) c δ=gSeq a (gSeq b c) δ:=by
 unfold gSeq
 cases a δ with
 | none=>rfl
 | some r=>cases r <;> rfl
theorem zkm {α β:Type} {f:D->Option D} (enc:α->D) (enc':β->D) (h:α->β):∀ (l:List α),(∀ a∈l,f (enc a)=some (enc' (h a)))->mapD f (l.map enc)=some ((l.map h).map enc')
 | [],_=>rfl
 | a :: l,hf=>by
   rw [List.map_cons,mapD,hf a List.mem_cons_self,Option.bind_some,zkm enc enc' h l fun b hb=>hf b (List.mem_cons_of_mem _ hb)]
   rfl
theorem zc9 {α β:Type} (enc:α->D) (enc':β->D) (h:α->β) {gi:DS->Option (List D)} {ix:List Nat} {ge:DS->Option D} {δ:DS} (l:List α) (hi:gi δ=some (l.map enc)) (hn:l.length<=100000)
  (hf:∀ a∈l,ge (some (enc a) :: captD ix δ)=some (enc' (h a))):gComp gi ix ge δ=some ((l.map h).map enc'):=by
 unfold gComp
 rw [hi,Option.bind_some,if_pos (by rw [List.length_map]; exact hn)]
 exact zkm enc enc' h l hf
theorem zqY (a b:Fr2):dEq (dF a) (dF b)=some (.bool (decide (a=b))):=by
 show (if (SeqAt.shaped (dF a) && SeqAt.shaped (dF b))=true then some (PyData.bool (PyData.eqv (dF a) (dF b))) else none)=_
 rw [zp7,zp7,zpP]; rfl
theorem zcX (a b:Int):dEq (.int a) (.int b)=some (.bool (decide (a=b))):=rfl
theorem ziN (a b:Int):dNe (.int a) (.int b)=some (.bool (!decide (a=b))):=rfl
theorem zqA {a b:D} {c:Bool} (h:dEq a b=some (.bool c)):dNe a b=some (.bool (!c)):=by unfold dNe; rw [h]; rfl
theorem zlb {ga:DS->Option (List D)} {gb:DS->Option D} {δ:DS} {ds:List D} {n:Nat} (h1:ga δ=some ds) (h2:gb δ=some (.int (n:Nat))) (h3:n<=100000) (h4:ds.length * n<=100000):gRepN ga gb δ=some (List.replicate n ds).flatten:=by
 unfold gRepN
 rw [h1,h2,Option.bind_some,Option.bind_some]
 show (if ((n:Nat):Int) < 2 ^ 62 /\ -(2 ^ 62) < ((n:Nat):Int) /\ ds.length * ((n:Nat):Int).toNat<=100000 then some (List.replicate ((n:Nat):Int).toNat ds).flatten else none)=_
 rw [Int.toNat_natCast,if_pos ⟨by omega,by omega,h4⟩]
theorem zbZ {g:DS->Option (List D)} {δ:DS} {n:Nat} (h:g δ=some [.int (n:Nat)]) (hn:n<=100000):gRange1 g δ=some (rangeD 0 n):=by
 unfold gRange1
 rw [h,Option.bind_some]
 show (if -(2 ^ 62)<=((n:Nat):Int) /\ ((n:Nat):Int) < 2 ^ 62 then some (rangeD 0 ((n:Nat):Int).toNat) else none)=_
 rw [Int.toNat_natCast,if_pos ⟨by omega,by omega⟩]
theorem zkV {g:DS->Option (List D)} {δ:DS} {a b:Int} (h:g δ=some [.int a,.int b]) (h1: -100000<=a) (h2:a<=100000) (h3: -100000<=b) (h4:b<=100000):gRange2 g δ=some (rangeD a (b - a).toNat):=by
 unfold gRange2
 rw [h,Option.bind_some]
 show (if -(2 ^ 62)<=a /\ a < 2 ^ 62 /\ -(2 ^ 62)<=b /\ b < 2 ^ 62 then some (rangeD a (b - a).toNat) else none)=_
 rw [if_pos ⟨by omega,by omega,by omega,by omega⟩]
theorem zn {G:List D->Option D} {n:Nat} {g:DS->Option (List D)} {δ:DS} {ds:List D} {r:Option D} (h:g δ=some ds) (hn:ds.length=n) (hG:G ds=r):gCall G n g δ=r:=by
 unfold gCall; rw [h,Option.bind_some,if_pos hn]; exact hG
theorem zP {G:List D->Option (List D)} {n:Nat} {g:DS->Option (List D)} {δ:DS} {ds:List D} {r:Option (List D)} (h:g δ=some ds) (hn:ds.length=n) (hG:G ds=r):gCallN G n g δ=r:=by
 unfold gCallN; rw [h,Option.bind_some,if_pos hn]; exact hG
theorem zA {g:DS->Option (List D)} {δ:DS} {l:List D} (h:g δ=some l):gLst g δ=some (.list l):=by unfold gLst; rw [h]; rfl
theorem zb {a:DS->Option D} {r:DS->Option (List D)} {δ:DS} {x:D} {xs:List D} (h:a δ=some x) (h2:r δ=some xs):gConsA a r δ=some (x :: xs):=by unfold gConsA; rw [h,h2]; rfl
theorem zJ {i:Nat} {g:DS->Option D} {δ:DS} {d:D} (h:g δ=some d):gSet i g δ=some (.nx (δ.set i (some d))):=by unfold gSet; rw [h]; rfl
theorem zlU {i:Nat} {g:DS->Option (List D)} {δ:DS} {d:List D} (h:g δ=some d):gSetN i g δ=some (.nx (δ.set i (some (.list d)))):=by unfold gSetN; rw [h]; rfl
theorem zcM (l:List D):dLen [.list l]=some (.int l.length):=rfl
theorem zfr (l:List D):dLen [.tuple l]=some (.int l.length):=rfl
theorem zlL (l:List Fr2):dLen [dP l]=some (.int (l.length:Nat)):=by unfold dP; rw [zcM,List.length_map]
theorem zkn (l:List D) (i:Int):dIx (.list l) (.int i)=atI l i:=rfl
theorem zgH (q:Fr2):dIx (dF q) (.int 0)=some (.int q.1):=rfl
theorem zhc (q:Fr2):dIx (dF q) (.int 1)=some (.int q.2):=rfl
theorem znH {a b:DS->Option Bool} {δ:DS} {r:Option Bool} (h1:a δ=some true) (h2:b δ=r):gAnd a b δ=r:=by unfold gAnd; rw [h1]; exact h2
theorem zer {a:DS->Option Bool} {δ:DS} {x:Bool} (h:a δ=some x):gNot a δ=some (!x):=by unfold gNot; rw [h]; rfl
theorem zaI {g:DS->Option D} {δ:DS} {b:Bool} (h:g δ=some (.bool b)):gB g δ=some b:=by unfold gB; rw [h]; rfl
theorem zlp {g:DS->Option D} {δ:DS} {b:Bool} (h:g δ=some (.bool b)):gTru g δ=some b:=by unfold gTru; rw [h]; rfl
theorem zj {f:D->D->Option D} {a b:DS->Option D} {δ:DS} {x y:D} {r:Option D} (h1:a δ=some x) (h2:b δ=some y) (h3:f x y=r):g2 f a b δ=r:=by unfold g2; rw [h1,h2]; exact h3
theorem zpa {a b:DS->Option D} {δ:DS} {r:Option D} (h1:a δ=some (.bool true)) (h2:b δ=r):gAndV a b δ=r:=by unfold gAndV; rw [zaI h1]; exact h2
theorem zin {f f':D->D->Option D} {a b c:DS->Option D} {δ:DS} {x y z:D} {r:Option D} (h1:a δ=some x) (h2:b δ=some y) (h3:f x y=some (.bool true)) (h4:c δ=some z) (h5:f' y z=r):gChain f f' a b c δ=r:=by
 unfold gChain; rw [h1,h2,Option.bind_some,Option.bind_some,h3,Option.bind_some,h4]; exact h5
end MyLaw
namespace MyLaw
open PySem L2 Q1
noncomputable abbrev CSX:List Str:=["NoLot","NoEnd","NoTelling"]
noncomputable abbrev TSX:List Str:=["NoLot","NoEnd","NoTelling","NoNumber","NoPlan","NoShares"]
noncomputable abbrev znR:DS->Option Res:=(gSeq (gSet 2 (g2 dSub (g1 dBits (gVar 0)) (gC (.int (240)))))
  (gSeq (gSet 3 (gTupD (gConsA (g2 dShr (gVar 0) (gVar 2)) (gConsA (gC (.int (1))) (gConsA (gC (.int (0))) gNilA)))))
  (gSeq (gSet 4 (gTupD (gConsA (g2 dShr (gVar 1) (gVar 2)) (gConsA (gC (.int (0))) (gConsA (gC (.int (1))) gNilA)))))
  (gSeq (gWhile (gB (g2 dNe (g2 dShr (g2 dIx (gVar 4) (gC (.int (0)))) (gC (.int (120)))) (gC (.int (0))))) (gSeq (gSet 5 (g2 dDiv (g2 dIx (gVar 3) (gC (.int (0)))) (g2 dIx (gVar 4) (gC (.int (0))))))
  (gSeq (gSet 6 (gTupD (gConsA (g2 dSub (g2 dIx (gVar 3) (gC (.int (0)))) (g2 dMulI (gVar 5) (g2 dIx (gVar 4) (gC (.int (0)))))) (gConsA (g2 dSub (g2 dIx (gVar 3) (gC (.int (1)))) (g2 dMulI (gVar 5) (g2 dIx (gVar 4) (gC (.int (1)))))) (gConsA (g2 dSub (g2 dIx (gVar 3) (gC (.int (2)))) (g2 dMulI (gVar 5) (g2 dIx (gVar 4) (gC (.int (2)))))) gNilA)))))
  (gSeq (gSet 3 (gVar 4))
  (gSet 4 (gVar 6))))))
  (gRet (gTupD (gConsA (gB1 dAbs (gConsA (g2 dAddV (g2 dMulI (g2 dIx (gVar 3) (gC (.int (1)))) (gVar 0)) (g2 dMulI (g2 dIx (gVar 3) (gC (.int (2)))) (gVar 1))) gNilA)) (gConsA (gB1 dAbs (gConsA (g2 dAddV (g2 dMulI (g2 dIx (gVar 4) (gC (.int (1)))) (gVar 0)) (g2 dMulI (g2 dIx (gVar 4) (gC (.int (2)))) (gVar 1))) gNilA)) gNilA))))))))
noncomputable def zjW:List D->Option D:=gDef 7 znR
noncomputable abbrev za8:DS->Option Res:=(gSeq (gSet 0 (gB1 dAbs (gConsA (gVar 0) gNilA)))
  (gSeq (gSet 1 (gB1 dAbs (gConsA (gVar 1) gNilA)))
  (gSeq (gWhile (gB (g2 dNe (gVar 1) (gC (.int (0))))) (gSeq (gSet 2 (g2 dMod (gVar 0) (gVar 1)))
  (gSeq (gSet 0 (gVar 1))
  (gSeq (gSet 1 (gVar 2))
  (gIf (gB (g2 dGt (g1 dBits (gVar 1)) (gC (.int (4000))))) (gSeq (gSet 3 (gCall zjW 2 (gConsA (gVar 0) (gConsA (gVar 1) gNilA))))
  (gSeq (gSet 0 (g2 dIx (gVar 3) (gC (.int (0)))))
  (gSet 1 (g2 dIx (gVar 3) (gC (.int (1))))))) gSkip)))))
  (gRet (gVar 0)))))
noncomputable def zQ:List D->Option D:=gDef 4 za8
theorem zdv (a0 a1:D):zQ [a0,a1]=(za8 [some a0,some a1,none,none]).bind gOut:=rfl
noncomputable abbrev zjX:DS->Option Res:=(gSeq (gIf (gB (g2 dEq (gVar 1) (gC (.int (0))))) (fun _=>none) gSkip)
  (gSeq (gSet 2 (gCall zQ 2 (gConsA (gVar 0) (gConsA (gVar 1) gNilA))))
  (gSeq (gIf (gB (g2 dLt (gVar 1) (gC (.int (0))))) (gSet 2 (g1 dNeg (gVar 2))) gSkip)
  (gRet (gTupD (gConsA (g2 dDiv (gVar 0) (gVar 2)) (gConsA (g2 dDiv (gVar 1) (gVar 2)) gNilA)))))))
noncomputable def zbg:List D->Option D:=gDef 3 zjX
theorem zql (a0 a1:D):zbg [a0,a1]=(zjX [some a0,some a1,none]).bind gOut:=rfl
noncomputable abbrev zh9:DS->Option Res:=(gSeq (gSet 2 (gCall zbg 2 (gConsA (g2 dIx (gVar 0) (gC (.int (0)))) (gConsA (g2 dIx (gVar 1) (gC (.int (1)))) gNilA))))
  (gSeq (gSet 3 (gCall zbg 2 (gConsA (g2 dIx (gVar 1) (gC (.int (0)))) (gConsA (g2 dIx (gVar 0) (gC (.int (1)))) gNilA))))
  (gRet (gTupD (gConsA (g2 dMulI (g2 dIx (gVar 2) (gC (.int (0)))) (g2 dIx (gVar 3) (gC (.int (0))))) (gConsA (g2 dMulI (g2 dIx (gVar 2) (gC (.int (1)))) (g2 dIx (gVar 3) (gC (.int (1))))) gNilA))))))
noncomputable def zeV:List D->Option D:=gDef 4 zh9
theorem zn5 (a0 a1:D):zeV [a0,a1]=(zh9 [some a0,some a1,none,none]).bind gOut:=rfl
noncomputable abbrev zey:DS->Option Res:=(gSeq (gSet 2 (g2 dAddV (g2 dIx (gVar 1) (gC (.int (0)))) (g2 dIx (gVar 1) (gC (.int (1))))))
  (gRet (gAndV (gChain dLe dLt (gC (.int (0))) (gVar 2) (gB1 dLen (gConsA (gVar 0) gNilA))) (g2 dIn (g2 dIx (gVar 1) (gC (.int (0)))) (g2 dIx (gVar 0) (gVar 2))))))
noncomputable def zch:List D->Option D:=gDef 3 zey
theorem zlv (a0 a1:D):zch [a0,a1]=(zey [some a0,some a1,none]).bind gOut:=rfl
noncomputable abbrev zfE:DS->Option Res:=(gRet (gLst (gSS (gLst (g2N dCat (gLst (gB1N dListN (gConsA (gVar 0) gNilA))) (gLst (gComp (gItems (gVar 0)) [] (g2 dAddV (gVar 0) (gC (.int (1)))))))))))
noncomputable def zcp:List D->Option (List D):=gDefN 1 zfE
theorem zmv (a0:D):zcp [a0]=(zfE [some a0]).bind gOutN:=rfl
noncomputable abbrev zek:DS->Option Res:=(gSeq (gSetN 1 (gLstN (gConsA (gTupD (gConsA (gC (.int (0))) (gConsA (gC (.int (0))) gNilA))) gNilA)))
  (gSeq (gFor (gEnumS (gVar 0)) (gTupT 2 (gConsT (gName' 2) (gConsT (gName' 3) gNilT)))
   (gExt 1 (gComp (gItems (gLst (gCallN zcp 1 (gConsA (gVar 3) gNilA)))) [2] (gTupD (gConsA (gVar 0) (gConsA (g2 dSub (gVar 1) (gVar 0)) gNilA))))))
  (gRet (gVar 1))))
noncomputable def zb0:List D->Option (List D):=gDefN 4 zek
theorem zj4 (a0:D):zb0 [a0]=(zek [some a0,none,none,none]).bind gOutN:=rfl
noncomputable abbrev zkb:DS->Option Res:=(gRet (gLst (gCompL (gItems (gLst (gCallN zb0 1 (gConsA (gVar 0) gNilA)))) 1 [0] (gName' 0) (gNot (gTru (gCall zch 2 (gConsA (gVar 1) (gConsA (gVar 0) gNilA))))) (gVar 0))))
noncomputable def zaN:List D->Option (List D):=gDefN 1 zkb
theorem zqF (a0:D):zaN [a0]=(zkb [some a0]).bind gOutN:=rfl
noncomputable abbrev zdK:DS->Option Res:=(gSeq (gSetN 1 (gLstN gNilA))
  (gSeq (gFor (gEnumT (gVar 0)) (gTupT 2 (gConsT (gName' 2) (gConsT (gName' 3) gNilT)))
   (gExt 1 (gComp (gItems (gVar 3)) [2] (gTupD (gConsA (gVar 0) (gConsA (g2 dSub (gVar 1) (gVar 0)) gNilA))))))
  (gRet (gVar 1))))
noncomputable def zbH:List D->Option (List D):=gDefN 4 zdK
theorem zjn (a0:D):zbH [a0]=(zdK [some a0,none,none,none]).bind gOutN:=rfl
noncomputable abbrev zcb:DS->Option Res:=(gSeq (gSet 2 (gLst (gCallN zaN 1 (gConsA (gVar 0) gNilA))))
  (gFor (gItems (gVar 1)) (gName' 3)
   (gIf (gB (g2 (dInT true) (gVar 3) (gVar 2))) (gRaise "NoEnd") gSkip)))
noncomputable def zaB:List D->Option D:=gDef 4 zcb
theorem zfS (a0 a1:D):zaB [a0,a1]=(zcb [some a0,some a1,none,none]).bind gOut:=rfl
noncomputable abbrev zcQ:DS->Option Res:=(gSeq (gSet 2 (gLst (gCallN zaN 1 (gConsA (gVar 0) gNilA))))
  (gFor (gItems (gVar 1)) (gName' 3)
   (gIf (gB (g2 (dInT true) (gVar 3) (gVar 2))) (fun _=>none) gSkip)))
noncomputable def zaz:List D->Option D:=gDef 4 zcQ
theorem zhg (a0 a1:D):zaz [a0,a1]=(zcQ [some a0,some a1,none,none]).bind gOut:=rfl
noncomputable abbrev zhT:DS->Option Res:=(gSeq (gIf (gB (g2 dEq (gVar 1) (gC (.str "b")))) (gRet (gTupD (gConsA (g2 dAddV (g2 dIx (gVar 0) (gC (.int (0)))) (gC (.int (1)))) (gConsA (g2 dIx (gVar 0) (gC (.int (1)))) gNilA)))) gSkip)
  (gRet (gTupD (gConsA (g2 dIx (gVar 0) (gC (.int (0)))) (gConsA (g2 dAddV (g2 dIx (gVar 0) (gC (.int (1)))) (gC (.int (1)))) gNilA)))))
noncomputable def zbK:List D->Option D:=gDef 2 zhT
theorem zlu (a0 a1:D):zbK [a0,a1]=(zhT [some a0,some a1]).bind gOut:=rfl
noncomputable abbrev zel:DS->Option Res:=(gSeq (gSetN 1 (gB1N dListN (gConsA (gVar 0) gNilA)))
  (gSeq (gWhile (gAnd (gB (g2 dGt (gB1 dLen (gConsA (gVar 1) gNilA)) (gC (.int (0))))) (gB (g2 dEq (g2 dIx (gVar 1) (g1 dNeg (gC (.int (1))))) (gC (.tuple [(.int (0)),(.int (1))]))))) (gPop 1))
  (gRet (gVar 1))))
noncomputable def za6:List D->Option (List D):=gDefN 2 zel
theorem zlB (a0:D):za6 [a0]=(zel [some a0,none]).bind gOutN:=rfl
noncomputable abbrev zfT:DS->Option Res:=(gRet (gLst (gCallN za6 1 (gConsA (gLst (gComp (gItems (gVar 0)) [1] (gCall zeV 2 (gConsA (gVar 0) (gConsA (gVar 1) gNilA))))) gNilA))))
noncomputable def zcq:List D->Option (List D):=gDefN 2 zfT
theorem zmd (a0 a1:D):zcq [a0,a1]=(zfT [some a0,some a1]).bind gOutN:=rfl
noncomputable abbrev zdL:DS->Option Res:=(gSeq (gSetN 2 (gRepN (gLstN (gConsA (gC (.tuple [(.int (0)),(.int (1))])) gNilA)) (gVar 0)))
  (gSeq (gSet 3 (gC (.int (1))))
  (gSeq (gFor (gRange1 (gConsA (g2 dAddV (gVar 1) (gC (.int (1)))) gNilA)) (gName' 4)
   (gSeq (gApp 2 (gTupD (gConsA (gVar 3) (gConsA (gC (.int (1))) gNilA))))
  (gSet 3 (g2 dDiv (g2 dMulI (g1 dNeg (gVar 3)) (g2 dSub (gVar 1) (gVar 4))) (g2 dAddV (gVar 4) (gC (.int (1))))))))
  (gRet (gVar 2)))))
noncomputable def zak:List D->Option (List D):=gDefN 5 zdL
theorem zjl (a0 a1:D):zak [a0,a1]=(zdL [some a0,some a1,none,none,none]).bind gOutN:=rfl
noncomputable abbrev zb1:DS->Option Res:=(gSeq (gSet 1 (gC (.int (1))))
  (gSeq (gFor (gItems (gVar 0)) (gName' 2)
   (gSet 1 (g2 dMulI (g2 dDiv (gVar 1) (gCall zQ 2 (gConsA (gVar 1) (gConsA (g2 dIx (gVar 2) (gC (.int (1)))) gNilA)))) (g2 dIx (gVar 2) (gC (.int (1)))))))
  (gRet (gVar 1))))
noncomputable def zI:List D->Option D:=gDef 3 zb1
theorem zep (a0:D):zI [a0]=(zb1 [some a0,none,none]).bind gOut:=rfl
noncomputable abbrev zdb:DS->Option Res:=(gRet (gLst (gComp (gItems (gVar 0)) [1] (g2 dMulI (g2 dIx (gVar 0) (gC (.int (0)))) (g2 dDiv (gVar 1) (g2 dIx (gVar 0) (gC (.int (1)))))))))
noncomputable def zab:List D->Option (List D):=gDefN 2 zdb
theorem zh7 (a0 a1:D):zab [a0,a1]=(zdb [some a0,some a1]).bind gOutN:=rfl
noncomputable abbrev zde:DS->Option Res:=(gSeq (gSetD 2 (gDisp1 (gVar 1) (gC (.int (1)))))
  (gSeq (gFor (gItems (gLst (gCallN zbH 1 (gConsA (gVar 0) gNilA)))) (gName' 3)
   (gSeq (gSet 4 (gDgetD (gVar 2) (gVar 3) (gC (.int (0)))))
  (gFor (gItems (gTupD (gConsA (gCall zbK 2 (gConsA (gVar 3) (gConsA (gC (.str "b")) gNilA))) (gConsA (gCall zbK 2 (gConsA (gVar 3) (gConsA (gC (.str "g")) gNilA))) gNilA)))) (gName' 5)
   (gSetK 2 (gVar 5) (g2 dAddV (gDgetD (gVar 2) (gVar 5) (gC (.int (0)))) (gVar 4))))))
  (gRet (gVar 2))))
noncomputable def zS:List D->Option D:=gDef 6 zde
theorem zhr (a0 a1:D):zS [a0,a1]=(zde [some a0,some a1,none,none,none,none]).bind gOut:=rfl
noncomputable abbrev zet:DS->Option Res:=(gRet (gDgetD (gCall zS 2 (gConsA (gVar 0) (gConsA (gTupD (gConsA (gC (.int (0))) (gConsA (gC (.int (0))) gNilA))) gNilA))) (gVar 1) (gC (.int (0)))))
noncomputable def zap:List D->Option D:=gDef 2 zet
theorem zl7 (a0 a1:D):zap [a0,a1]=(zet [some a0,some a1]).bind gOut:=rfl
noncomputable abbrev zgc:DS->Option Res:=(gSeq (gDropR (gCall zaB 2 (gConsA (gVar 0) (gConsA (gLst (gLstN (gConsA (gVar 1) gNilA))) gNilA))))
  (gRet (gLst (gCallN zcq 2 (gConsA (gLst (gCallN zak 2 (gConsA (g2 dIx (gVar 1) (gC (.int (0)))) (gConsA (g2 dIx (gVar 1) (gC (.int (1)))) gNilA)))) (gConsA (gTupD (gConsA (gCall zap 2 (gConsA (gVar 0) (gConsA (gVar 1) gNilA))) (gConsA (gC (.int (1))) gNilA))) gNilA))))))
noncomputable def zff:List D->Option D:=gDef 2 zgc
theorem zox (a0 a1:D):zff [a0,a1]=(zgc [some a0,some a1]).bind gOut:=rfl
noncomputable abbrev ziy:DS->Option Res:=(gSeq (gDrop (gCall zaz 2 (gConsA (gVar 0) (gConsA (gLst (gLstN (gConsA (gVar 1) gNilA))) gNilA))))
  (gRet (gLst (gCallN zcq 2 (gConsA (gLst (gCallN zak 2 (gConsA (g2 dIx (gVar 1) (gC (.int (0)))) (gConsA (g2 dIx (gVar 1) (gC (.int (1)))) gNilA)))) (gConsA (gTupD (gConsA (gCall zap 2 (gConsA (gVar 0) (gConsA (gVar 1) gNilA))) (gConsA (gC (.int (1))) gNilA))) gNilA))))))
noncomputable def zk3:List D->Option (List D):=gDefN 2 ziy
theorem zns (a0 a1:D):zk3 [a0,a1]=(ziy [some a0,some a1]).bind gOutN:=rfl
noncomputable abbrev zaF:DS->Option Res:=(gIf (gB (g2 dNe (gB1 dLen (gConsA (gVar 1) gNilA)) (gB1 dLen (gConsA (gLst (gCallN zaN 1 (gConsA (gVar 0) gNilA))) gNilA)))) (gRaise "NoTelling") gSkip)
noncomputable def zaf:List D->Option D:=gDef 2 zaF
theorem zd4 (a0 a1:D):zaf [a0,a1]=(zaF [some a0,some a1]).bind gOut:=rfl
noncomputable abbrev zbc:DS->Option Res:=(gIf (gB (g2 dNe (gB1 dLen (gConsA (gVar 1) gNilA)) (gB1 dLen (gConsA (gLst (gCallN zaN 1 (gConsA (gVar 0) gNilA))) gNilA)))) (fun _=>none) gSkip)
noncomputable def zad:List D->Option D:=gDef 2 zbc
theorem zeM (a0 a1:D):zad [a0,a1]=(zbc [some a0,some a1]).bind gOut:=rfl
noncomputable abbrev zcK:DS->Option Res:=(gSeq (gDropR (gCall zaf 2 (gConsA (gVar 0) (gConsA (gVar 1) gNilA))))
  (gSeq (gSet 2 (gCall zS 2 (gConsA (gVar 0) (gConsA (gTupD (gConsA (gC (.int (0))) (gConsA (gC (.int (0))) gNilA))) gNilA))))
  (gSeq (gSet 3 (gCall zI 1 (gConsA (gVar 1) gNilA)))
  (gSeq (gSetN 4 (gRepN (gLstN (gConsA (gC (.int (0))) gNilA)) (g2 dAddV (gB1 dLen (gConsA (gVar 0) gNilA)) (gC (.int (1))))))
  (gSeq (gFor (gZip (gLst (gCallN zaN 1 (gConsA (gVar 0) gNilA))) (gLst (gCallN zab 2 (gConsA (gVar 1) (gConsA (gVar 3) gNilA))))) (gTupT 2 (gConsT (gName' 5) (gConsT (gName' 6) gNilT)))
   (gFor (gEnumerate (gLst (gCallN zak 2 (gConsA (g2 dIx (gVar 5) (gC (.int (0)))) (gConsA (g2 dIx (gVar 5) (gC (.int (1)))) gNilA))))) (gTupT 2 (gConsT (gName' 7) (gConsT (gName' 8) gNilT)))
   (gAugIx 4 (fun i j=>i + j) (gVar 7) (g2 dMulI (g2 dMulI (gVar 6) (gDget (gVar 2) (gVar 5))) (g2 dIx (gVar 8) (gC (.int (0))))))))
  (gRet (gLst (gCallN za6 1 (gConsA (gLst (gComp (gItems (gVar 4)) [3] (gCall zbg 2 (gConsA (gVar 0) (gConsA (gVar 1) gNilA))))) gNilA)))))))))
noncomputable def zcj:List D->Option D:=gDef 9 zcK
theorem zi0 (a0 a1:D):zcj [a0,a1]=(zcK [some a0,some a1,none,none,none,none,none,none,none]).bind gOut:=rfl
noncomputable abbrev zdt:DS->Option Res:=(gSeq (gDrop (gCall zad 2 (gConsA (gVar 0) (gConsA (gVar 1) gNilA))))
  (gSeq (gSet 2 (gCall zS 2 (gConsA (gVar 0) (gConsA (gTupD (gConsA (gC (.int (0))) (gConsA (gC (.int (0))) gNilA))) gNilA))))
  (gSeq (gSet 3 (gCall zI 1 (gConsA (gVar 1) gNilA)))
  (gSeq (gSetN 4 (gRepN (gLstN (gConsA (gC (.int (0))) gNilA)) (g2 dAddV (gB1 dLen (gConsA (gVar 0) gNilA)) (gC (.int (1))))))
  (gSeq (gFor (gZip (gLst (gCallN zaN 1 (gConsA (gVar 0) gNilA))) (gLst (gCallN zab 2 (gConsA (gVar 1) (gConsA (gVar 3) gNilA))))) (gTupT 2 (gConsT (gName' 5) (gConsT (gName' 6) gNilT)))
   (gFor (gEnumerate (gLst (gCallN zak 2 (gConsA (g2 dIx (gVar 5) (gC (.int (0)))) (gConsA (g2 dIx (gVar 5) (gC (.int (1)))) gNilA))))) (gTupT 2 (gConsT (gName' 7) (gConsT (gName' 8) gNilT)))
   (gAugIx 4 (fun i j=>i + j) (gVar 7) (g2 dMulI (g2 dMulI (gVar 6) (gDget (gVar 2) (gVar 5))) (g2 dIx (gVar 8) (gC (.int (0))))))))
  (gRet (gLst (gCallN za6 1 (gConsA (gLst (gComp (gItems (gVar 4)) [3] (gCall zbg 2 (gConsA (gVar 0) (gConsA (gVar 1) gNilA))))) gNilA)))))))))
noncomputable def zeF:List D->Option (List D):=gDefN 9 zdt
theorem zgn (a0 a1:D):zeF [a0,a1]=(zdt [some a0,some a1,none,none,none,none,none,none,none]).bind gOutN:=rfl
noncomputable abbrev zbA:DS->Option Res:=(gIf (gNot (gB (gChain dLe dLe (gB1 dLen (gConsA (gVar 0) gNilA)) (gVar 1) (gC (.int (200)))))) (gRaise "NoLot") gSkip)
noncomputable def zby:List D->Option D:=gDef 2 zbA
theorem zfV (a0 a1:D):zby [a0,a1]=(zbA [some a0,some a1]).bind gOut:=rfl
noncomputable abbrev zca:DS->Option Res:=(gIf (gNot (gB (gChain dLe dLe (gB1 dLen (gConsA (gVar 0) gNilA)) (gVar 1) (gC (.int (200)))))) (fun _=>none) gSkip)
noncomputable def zbx:List D->Option D:=gDef 2 zca
theorem zgF (a0 a1:D):zbx [a0,a1]=(zca [some a0,some a1]).bind gOut:=rfl
noncomputable abbrev zbS:DS->Option Res:=(gSeq (gDropR (gCall zby 2 (gConsA (gVar 0) (gConsA (gVar 1) gNilA))))
  (gIf (gNot (gB (gChain dLe dLe (gC (.int (0))) (gVar 2) (gVar 1)))) (gRaise "NoLot") gSkip))
noncomputable def zaA:List D->Option D:=gDef 3 zbS
theorem zhk (a0 a1 a2:D):zaA [a0,a1,a2]=(zbS [some a0,some a1,some a2]).bind gOut:=rfl
noncomputable abbrev zcr:DS->Option Res:=(gSeq (gDrop (gCall zbx 2 (gConsA (gVar 0) (gConsA (gVar 1) gNilA))))
  (gIf (gNot (gB (gChain dLe dLe (gC (.int (0))) (gVar 2) (gVar 1)))) (fun _=>none) gSkip))
noncomputable def zaW:List D->Option D:=gDef 3 zcr
theorem zhJ (a0 a1 a2:D):zaW [a0,a1,a2]=(zcr [some a0,some a1,some a2]).bind gOut:=rfl
noncomputable abbrev zeu:DS->Option Res:=(gSeq (gSet 2 (gC (.int (1))))
  (gSeq (gFor (gRange1 (gConsA (gVar 1) gNilA)) (gName' 3)
   (gSet 2 (g2 dMulI (gVar 2) (g2 dSub (gVar 0) (gVar 3)))))
  (gRet (gVar 2))))
noncomputable def z7:List D->Option D:=gDef 4 zeu
theorem zkE (a0 a1:D):z7 [a0,a1]=(zeu [some a0,some a1,none,none]).bind gOut:=rfl
noncomputable abbrev zeJ:DS->Option Res:=(gRet (g2 dMulI (gCall z7 2 (gConsA (gVar 2) (gConsA (g2 dIx (gVar 0) (gC (.int (0)))) gNilA))) (gCall z7 2 (gConsA (g2 dSub (gVar 1) (gVar 2)) (gConsA (g2 dIx (gVar 0) (gC (.int (1)))) gNilA)))))
noncomputable def zaE:List D->Option D:=gDef 3 zeJ
theorem zkR (a0 a1 a2:D):zaE [a0,a1,a2]=(zeJ [some a0,some a1,some a2]).bind gOut:=rfl
noncomputable abbrev zbr:DS->Option Res:=(gSeq (gDropR (gCall zaA 3 (gConsA (gVar 0) (gConsA (gVar 2) (gConsA (gVar 3) gNilA)))))
  (gSeq (gDropR (gCall zaB 2 (gConsA (gVar 0) (gConsA (gLst (gLstN (gConsA (gVar 1) gNilA))) gNilA))))
  (gRet (gCall zbg 2 (gConsA (g2 dMulI (gCall zap 2 (gConsA (gVar 0) (gConsA (gVar 1) gNilA))) (gCall zaE 3 (gConsA (gVar 1) (gConsA (gVar 2) (gConsA (gVar 3) gNilA))))) (gConsA (gCall z7 2 (gConsA (gVar 2) (gConsA (g2 dAddV (g2 dIx (gVar 1) (gC (.int (0)))) (g2 dIx (gVar 1) (gC (.int (1))))) gNilA))) gNilA))))))
noncomputable def zbl:List D->Option D:=gDef 4 zbr
theorem zh4 (a0 a1 a2 a3:D):zbl [a0,a1,a2,a3]=(zbr [some a0,some a1,some a2,some a3]).bind gOut:=rfl
noncomputable abbrev zcV:DS->Option Res:=(gSeq (gDrop (gCall zaW 3 (gConsA (gVar 0) (gConsA (gVar 2) (gConsA (gVar 3) gNilA)))))
  (gSeq (gDrop (gCall zaz 2 (gConsA (gVar 0) (gConsA (gLst (gLstN (gConsA (gVar 1) gNilA))) gNilA))))
  (gRet (gCall zbg 2 (gConsA (g2 dMulI (gCall zap 2 (gConsA (gVar 0) (gConsA (gVar 1) gNilA))) (gCall zaE 3 (gConsA (gVar 1) (gConsA (gVar 2) (gConsA (gVar 3) gNilA))))) (gConsA (gCall z7 2 (gConsA (gVar 2) (gConsA (g2 dAddV (g2 dIx (gVar 1) (gC (.int (0)))) (g2 dIx (gVar 1) (gC (.int (1))))) gNilA))) gNilA))))))
noncomputable def zdF:List D->Option D:=gDef 4 zcV
theorem zfs (a0 a1 a2 a3:D):zdF [a0,a1,a2,a3]=(zcV [some a0,some a1,some a2,some a3]).bind gOut:=rfl
noncomputable abbrev zbq:DS->Option Res:=(gSeq (gDropR (gCall zaA 3 (gConsA (gVar 0) (gConsA (gVar 2) (gConsA (gVar 3) gNilA)))))
  (gSeq (gDropR (gCall zaf 2 (gConsA (gVar 0) (gConsA (gVar 1) gNilA))))
  (gSeq (gSet 4 (gCall zS 2 (gConsA (gVar 0) (gConsA (gTupD (gConsA (gC (.int (0))) (gConsA (gC (.int (0))) gNilA))) gNilA))))
  (gSeq (gSet 5 (gCall zI 1 (gConsA (gVar 1) gNilA)))
  (gSeq (gSet 6 (gC (.int (0))))
  (gSeq (gFor (gZip (gLst (gCallN zaN 1 (gConsA (gVar 0) gNilA))) (gLst (gCallN zab 2 (gConsA (gVar 1) (gConsA (gVar 5) gNilA))))) (gTupT 2 (gConsT (gName' 7) (gConsT (gName' 8) gNilT)))
   (gSeq (gSet 9 (g2 dAddV (g2 dIx (gVar 7) (gC (.int (0)))) (g2 dIx (gVar 7) (gC (.int (1))))))
  (gAugI 6 (fun i j=>i + j) (g2 dMulI (g2 dMulI (g2 dMulI (gVar 8) (gDget (gVar 4) (gVar 7))) (gCall zaE 3 (gConsA (gVar 7) (gConsA (gVar 2) (gConsA (gVar 3) gNilA))))) (gCall z7 2 (gConsA (g2 dSub (gVar 2) (gVar 9)) (gConsA (g2 dSub (gB1 dLen (gConsA (gVar 0) gNilA)) (gVar 9)) gNilA)))))))
  (gRet (gCall zbg 2 (gConsA (gVar 6) (gConsA (g2 dMulI (gVar 5) (gCall z7 2 (gConsA (gVar 2) (gConsA (gB1 dLen (gConsA (gVar 0) gNilA)) gNilA)))) gNilA))))))))))
noncomputable def zbh:List D->Option D:=gDef 10 zbq
theorem zh1 (a0 a1 a2 a3:D):zbh [a0,a1,a2,a3]=(zbq [some a0,some a1,some a2,some a3,none,none,none,none,none,none]).bind gOut:=rfl
noncomputable abbrev zcU:DS->Option Res:=(gSeq (gDrop (gCall zaW 3 (gConsA (gVar 0) (gConsA (gVar 2) (gConsA (gVar 3) gNilA)))))
  (gSeq (gDrop (gCall zad 2 (gConsA (gVar 0) (gConsA (gVar 1) gNilA))))
  (gSeq (gSet 4 (gCall zS 2 (gConsA (gVar 0) (gConsA (gTupD (gConsA (gC (.int (0))) (gConsA (gC (.int (0))) gNilA))) gNilA))))
  (gSeq (gSet 5 (gCall zI 1 (gConsA (gVar 1) gNilA)))
  (gSeq (gSet 6 (gC (.int (0))))
  (gSeq (gFor (gZip (gLst (gCallN zaN 1 (gConsA (gVar 0) gNilA))) (gLst (gCallN zab 2 (gConsA (gVar 1) (gConsA (gVar 5) gNilA))))) (gTupT 2 (gConsT (gName' 7) (gConsT (gName' 8) gNilT)))
   (gSeq (gSet 9 (g2 dAddV (g2 dIx (gVar 7) (gC (.int (0)))) (g2 dIx (gVar 7) (gC (.int (1))))))
  (gAugI 6 (fun i j=>i + j) (g2 dMulI (g2 dMulI (g2 dMulI (gVar 8) (gDget (gVar 4) (gVar 7))) (gCall zaE 3 (gConsA (gVar 7) (gConsA (gVar 2) (gConsA (gVar 3) gNilA))))) (gCall z7 2 (gConsA (g2 dSub (gVar 2) (gVar 9)) (gConsA (g2 dSub (gB1 dLen (gConsA (gVar 0) gNilA)) (gVar 9)) gNilA)))))))
  (gRet (gCall zbg 2 (gConsA (gVar 6) (gConsA (g2 dMulI (gVar 5) (gCall z7 2 (gConsA (gVar 2) (gConsA (gB1 dLen (gConsA (gVar 0) gNilA)) gNilA)))) gNilA))))))))))
noncomputable def zdW:List D->Option D:=gDef 10 zcU
theorem zfh (a0 a1 a2 a3:D):zdW [a0,a1,a2,a3]=(zcU [some a0,some a1,some a2,some a3,none,none,none,none,none,none]).bind gOut:=rfl
noncomputable abbrev zdH:DS->Option Res:=(gSeq (gIf (gB (g2 dLt (gVar 1) (gB1 dLen (gConsA (gVar 0) gNilA)))) (gRet (g2 dIx (gVar 0) (gVar 1))) gSkip)
  (gRet (gC (.int (0)))))
noncomputable def zbG:List D->Option D:=gDef 2 zdH
theorem zjF (a0 a1:D):zbG [a0,a1]=(zdH [some a0,some a1]).bind gOut:=rfl
noncomputable abbrev zcC:DS->Option Res:=(gSeq (gSetN 3 (gLstN gNilA))
  (gSeq (gFor (gRange1 (gConsA (gVar 2) gNilA)) (gName' 4)
   (gSeq (gApp 3 (g2 dMod (gVar 0) (gVar 1)))
  (gSet 0 (g2 dDiv (gVar 0) (gVar 1)))))
  (gRet (gVar 3))))
noncomputable def za0:List D->Option (List D):=gDefN 5 zcC
theorem zgv (a0 a1 a2:D):za0 [a0,a1,a2]=(zcC [some a0,some a1,some a2,none,none]).bind gOutN:=rfl
noncomputable abbrev zdd:DS->Option Res:=(gSeq (gSetN 3 (gLstN gNilA))
  (gSeq (gFor (gRange1 (gConsA (gVar 2) gNilA)) (gName' 4)
   (gSeq (gSet 5 (g2 dMod (g2 dAddV (g2 dAddV (g2 dMulI (g2 dMod (gVar 0) (gC (.int (1000003)))) (gC (.int (48271)))) (g2 dMulI (g2 dMulI (gVar 4) (gVar 4)) (gC (.int (69621))))) (g2 dMulI (gVar 4) (gC (.int (16807))))) (gC (.int (2147483647)))))
  (gApp 3 (g2 dMod (g2 dDiv (g2 dMod (g2 dAddV (g2 dMulI (gVar 5) (gC (.int (39373)))) (gVar 0)) (gC (.int (2147483629)))) (gC (.int (13)))) (gVar 1)))))
  (gRet (gVar 3))))
noncomputable def zbW:List D->Option (List D):=gDefN 6 zdd
theorem zia (a0 a1 a2:D):zbW [a0,a1,a2]=(zdd [some a0,some a1,some a2,none,none,none]).bind gOutN:=rfl
noncomputable abbrev zdG:DS->Option Res:=(gSeq (gSet 2 (g2 dDiv (gVar 0) (gC (.int (4)))))
  (gSeq (gSet 3 (g2 dAddV (gC (.int (100))) (g2 dMulI (gC (.int (200))) (gB1 dInt (gConsA (g2 dGt (gVar 1) (gC (.int (12)))) gNilA)))))
  (gSeq (gSet 4 (gLst (gCallN zbW 3 (gConsA (gVar 2) (gConsA (gC (.int (3))) (gConsA (gVar 3) gNilA))))))
  (gSeq (gIf (gB (g2 dGe (gB1 dAbs (gConsA (gVar 0) gNilA)) (g2 dPow (gC (.int (10))) (gC (.int (18)))))) (gSet 4 (gLst (gCallN za0 3 (gConsA (gVar 2) (gConsA (gC (.int (3))) (gConsA (gVar 3) gNilA)))))) gSkip)
  (gSeq (gSetN 5 (gLstN (gConsA (gTupD (gConsA (gC (.int (0))) gNilA)) gNilA)))
  (gSeq (gSet 6 (gLst (gLstN (gConsA (gC (.int (0))) (gConsA (gC (.int (1))) gNilA)))))
  (gSeq (gSet 7 (gC (.int (0))))
  (gSeq (gWhile (gAnd (gB (g2 dLt (gB1 dLen (gConsA (gVar 5) gNilA)) (gVar 1))) (gB (g2 dGt (gB1 dLen (gConsA (gVar 6) gNilA)) (gC (.int (0)))))) (gSeq (gSet 8 (gLst (gCompL (gEnumerate (gVar 6)) 2 [4,3,7] (gTupT 2 (gConsT (gName' 0) (gConsT (gName' 1) gNilT))) (gB (g2 dGt (g2 dIx (gVar 2) (g2 dMod (g2 dAddV (gVar 4) (gVar 0)) (gVar 3))) (gC (.int (0))))) (gVar 1))))
  (gSeq (gSet 7 (g2 dAddV (gVar 7) (gB1 dLen (gConsA (gVar 6) gNilA))))
  (gSeq (gIf (gB (g2 dGt (g2 dMod (gVar 0) (gC (.int (4)))) (gC (.int (1))))) (gSet 8 (gLst (gSlL (gVar 6) (gPart (g2 dIx (gVar 4) (g2 dMod (gVar 7) (gVar 3)))) (gPart (gB1 dMax2 (gConsA (gC (.int (0))) (gConsA (g2 dSub (gB1 dLen (gConsA (gVar 6) gNilA)) (g2 dIx (gVar 4) (g2 dMod (g2 dAddV (gVar 7) (gC (.int (1)))) (gVar 3)))) gNilA))))))) gSkip)
  (gSeq (gSet 6 (gLst (gSS (gLst (g2N dCat (gVar 8) (gLst (gComp (gItems (gVar 8)) [] (g2 dAddV (gVar 0) (gC (.int (1)))))))))))
  (gIf (gB (g2 dGt (gB1 dLen (gConsA (gVar 8) gNilA)) (gC (.int (0))))) (gApp 5 (gB1 dTupleOf (gConsA (gVar 8) gNilA))) gSkip))))))
  (gRet (gB1 dTupleOf (gConsA (gVar 5) gNilA)))))))))))
noncomputable def zci:List D->Option D:=gDef 9 zdG
theorem zjb (a0 a1:D):zci [a0,a1]=(zdG [some a0,some a1,none,none,none,none,none,none,none]).bind gOut:=rfl
noncomputable abbrev zdD:DS->Option Res:=(gSeq (gSetN 1 (gLstN gNilA))
  (gSeq (gFor (gRange2 (gConsA (gC (.int (1))) (gConsA (g2 dAddV (gB1 dLen (gConsA (gVar 0) gNilA)) (gC (.int (1)))) gNilA))) (gName' 2)
   (gSeq (gSet 3 (gTupD gNilA))
  (gSeq (gIf (gB (g2 dLt (gVar 2) (gB1 dLen (gConsA (gVar 0) gNilA)))) (gSet 3 (g2 dIx (gVar 0) (gVar 2))) gSkip)
  (gSeq (gSet 4 (gLst (gSS (gLst (g2N dCat (gLst (gB1N dListN (gConsA (g2 dIx (gVar 0) (g2 dSub (gVar 2) (gC (.int (1))))) gNilA))) (gLst (gComp (gItems (g2 dIx (gVar 0) (g2 dSub (gVar 2) (gC (.int (1)))))) [] (g2 dAddV (gVar 0) (gC (.int (1)))))))))))
  (gExt 1 (gCompL (gItems (gVar 4)) 1 [2,3] (gName' 0) (gB (g2 dNotIn (gVar 0) (gVar 2))) (gTupD (gConsA (gVar 0) (gConsA (g2 dSub (gVar 1) (gVar 0)) gNilA)))))))))
  (gRet (gVar 1))))
noncomputable def zaj:List D->Option (List D):=gDefN 5 zdD
theorem zjp (a0:D):zaj [a0]=(zdD [some a0,none,none,none,none]).bind gOutN:=rfl
noncomputable abbrev zfi (y:Addr):DS->Option Res:=(gSeq (gSet 1 (gC (.str "")))
  (gSeq (gIf (gTru (gIsiX CSX "NoLot" (gVar 0))) (gSet 1 (g2 dAddV (gVar 1) (gC (.str "lot")))) gSkip)
  (gSeq (gIf (gTru (gIsiX CSX "NoEnd" (gVar 0))) (gSet 1 (g2 dAddV (gVar 1) (gC (.str "end")))) gSkip)
  (gSeq (gIf (gTru (gIsiX CSX "NoTelling" (gVar 0))) (gSet 1 (g2 dAddV (gVar 1) (gC (.str "telling")))) gSkip)
  (gSeq (gIf (gOr (gTru (gIsiX3 CSX "NoNumber" "NoPlan" "NoShares" (gVar 0))) (gNot (gTru (gIsiX CSX "ValueError" (gVar 0))))) (gSet 1 (g2 dAddV (gVar 1) (gC (.str "other")))) gSkip)
  (gRet (gVar 1)))))))
noncomputable def zck (y:Addr):List D->Option D:=gDef 2 (zfi y)
noncomputable def wordX (c:Str):D:=if c="NoLot" then .str "lot" else if c="NoEnd" then .str "end" else .str "telling"
theorem zqe (a:Addr) (c:Str) (hc:c∈CSX):zck a [exD a c]=some (wordX c):=by
 rcases List.mem_cons.mp hc with rfl | hc
 ·kernel_rfl
 rcases List.mem_cons.mp hc with rfl | hc
 ·kernel_rfl
 rcases List.mem_cons.mp hc with rfl | hc
 ·kernel_rfl
 cases hc
noncomputable abbrev zd0 (a:Addr):DS->Option Res:=(gRet (gCall (zck a) 1 (gConsA (gVar 6) gNilA)))
theorem zfB (a:Addr) (c:Str) (d:D) (h:handOf CSX wordX c=some d):zd0 a ((List.replicate 7 none).set 6 (some (exD a c)))=some (.rt d):=by
 obtain ⟨hc,rfl⟩:=zeR h
 exact zon rfl (zqe a c hc)
noncomputable abbrev zcO:DS->Option Res:=(gSeq (gTry (gIf (gB (g2 dEq (gVar 0) (gC (.int (0))))) (gSetR 5 (gCall zff 2 (gConsA (gVar 1) (gConsA (gVar 2) gNilA)))) (gIf (gB (g2 dEq (gVar 0) (gC (.int (1))))) (gSetR 5 (gCall zcj 2 (gConsA (gVar 1) (gConsA (gVar 3) gNilA)))) (gIf (gB (g2 dEq (gVar 0) (gC (.int (2))))) (gSetR 5 (gCall zbl 4 (gConsA (gVar 1) (gConsA (gVar 2) (gConsA (g2 dIx (gVar 4) (gC (.int (0)))) (gConsA (g2 dIx (gVar 4) (gC (.int (1)))) gNilA)))))) (gSetR 5 (gCall zbh 4 (gConsA (gVar 1) (gConsA (gVar 3) (gConsA (g2 dIx (gVar 4) (gC (.int (0)))) (gConsA (g2 dIx (gVar 4) (gC (.int (1)))) gNilA))))))))) (handOf CSX wordX))
  (gSeq (gIf (gB (g2 dLt (gVar 0) (gC (.int (2))))) (gRet (g2 dIx (gLst (gLstN (gConsA (gC (.str "none")) (gConsA (gC (.str "")) gNilA)))) (gB1 dInt (gConsA (gIsi "list" (gVar 5)) gNilA)))) gSkip)
  (gRet (g2 dIx (gLst (gLstN (gConsA (gC (.str "none")) (gConsA (gC (.str "")) gNilA)))) (gB1 dInt (gConsA (gAndV (gIsi "tuple" (gVar 5)) (g2 dEq (gB1 dLen (gConsA (gVar 5) gNilA)) (gC (.int (2))))) gNilA))))))
noncomputable def zaY:List D->Option D:=gDef 7 zcO
theorem zgi (a0 a1 a2 a3 a4:D):zaY [a0,a1,a2,a3,a4]=(zcO [some a0,some a1,some a2,some a3,some a4,none,none]).bind gOut:=rfl
noncomputable abbrev zeK:DS->Option Res:=(gSeq (gSet 2 (g2 dAddV (gVar 1) (g2 dMod (gVar 0) (gC (.int (20))))))
  (gSeq (gSet 3 (g2 dMod (g2 dDiv (gVar 0) (gC (.int (20)))) (g2 dAddV (gVar 2) (gC (.int (1))))))
  (gSeq (gSet 4 (g2 dMod (g2 dDiv (gVar 0) (gC (.int (3)))) (gC (.int (10)))))
  (gSeq (gSet 5 (g2 dMod (g2 dDiv (gVar 0) (gC (.int (40)))) (g2 dPow (gC (.int (10))) (gC (.int (30))))))
  (gSeq (gIf (gB (g2 dEq (gVar 4) (gC (.int (0))))) (gSet 2 (g2 dIx (gLst (gLstN (gConsA (g2 dSub (gVar 1) (gC (.int (1)))) (gConsA (gC (.int (201))) (gConsA (g2 dAddV (gC (.int (201))) (gVar 5)) (gConsA (g1 dNeg (gVar 5)) gNilA)))))) (g2 dMod (g2 dDiv (gVar 0) (gC (.int (30)))) (gC (.int (4)))))) gSkip)
  (gSeq (gIf (gB (g2 dEq (gVar 4) (gC (.int (1))))) (gSet 3 (g2 dIx (gLst (gLstN (gConsA (g1 dNeg (gC (.int (1)))) (gConsA (g2 dAddV (gVar 2) (gC (.int (1)))) (gConsA (g2 dAddV (g2 dAddV (gVar 2) (gC (.int (1)))) (gVar 5)) (gConsA (g2 dSub (g1 dNeg (gC (.int (1)))) (gVar 5)) gNilA)))))) (g2 dMod (g2 dDiv (gVar 0) (gC (.int (30)))) (gC (.int (4)))))) gSkip)
  (gSeq (gIf (gB (g2 dEq (gVar 4) (gC (.int (2))))) (gSeq (gSet 2 (g2 dIx (gLst (gLstN (gConsA (gVar 1) (gConsA (gC (.int (200))) gNilA)))) (g2 dMod (g2 dDiv (gVar 0) (gC (.int (30)))) (gC (.int (2))))))
  (gSet 3 (g2 dIx (gLst (gLstN (gConsA (gC (.int (0))) (gConsA (gVar 2) gNilA)))) (g2 dMod (g2 dDiv (gVar 0) (gC (.int (60)))) (gC (.int (2))))))) gSkip)
  (gSeq (gIf (gB (g2 dEq (gVar 4) (gC (.int (3))))) (gSeq (gSet 2 (g2 dSub (gVar 1) (gC (.int (1)))))
  (gSet 3 (g1 dNeg (gC (.int (1)))))) gSkip)
  (gRet (gTupD (gConsA (gVar 2) (gConsA (gVar 3) gNilA))))))))))))
noncomputable def zcg:List D->Option D:=gDef 6 zeK
theorem zkD (a0 a1:D):zcg [a0,a1]=(zeK [some a0,some a1,none,none,none,none]).bind gOut:=rfl
noncomputable abbrev zdh:DS->Option Res:=(gSeq (gSet 2 (gLst (gCallN zaj 1 (gConsA (gVar 0) gNilA))))
  (gSeq (gSet 3 (g2 dMod (gVar 1) (gC (.int (5)))))
  (gSeq (gSet 4 (g2 dIx (gVar 2) (g2 dMod (g2 dDiv (gVar 1) (gC (.int (5)))) (gB1 dLen (gConsA (gVar 2) gNilA)))))
  (gSeq (gIf (gB (g2 dEq (gVar 3) (gC (.int (0))))) (gSeq (gSet 5 (g2 dMod (g2 dDiv (gVar 1) (gC (.int (5)))) (gB1 dLen (gConsA (gVar 0) gNilA))))
  (gSeq (gSet 6 (g2 dIx (g2 dIx (gVar 0) (gVar 5)) (g2 dMod (g2 dDiv (gVar 1) (gC (.int (50)))) (gB1 dLen (gConsA (g2 dIx (gVar 0) (gVar 5)) gNilA)))))
  (gRet (gTupD (gConsA (gVar 6) (gConsA (g2 dSub (gVar 5) (gVar 6)) gNilA)))))) gSkip)
  (gSeq (gIf (gB (g2 dEq (gVar 3) (gC (.int (1))))) (gRet (g2 dIx (gLst (gLstN (gConsA (gTupD (gConsA (g2 dAddV (g2 dIx (gVar 4) (gC (.int (0)))) (gC (.int (1)))) (gConsA (g2 dIx (gVar 4) (gC (.int (1)))) gNilA))) (gConsA (gTupD (gConsA (g2 dIx (gVar 4) (gC (.int (0)))) (gConsA (g2 dAddV (g2 dIx (gVar 4) (gC (.int (1)))) (gC (.int (1)))) gNilA))) (gConsA (gTupD (gConsA (gC (.int (26))) (gConsA (gC (.int (0))) gNilA))) (gConsA (gTupD (gConsA (gC (.int (0))) (gConsA (gC (.int (25))) gNilA))) gNilA)))))) (g2 dMod (g2 dDiv (gVar 1) (gC (.int (5)))) (gC (.int (4)))))) gSkip)
  (gRet (gVar 4)))))))
noncomputable def zbi:List D->Option D:=gDef 7 zdh
theorem zhq (a0 a1:D):zbi [a0,a1]=(zdh [some a0,some a1,none,none,none,none,none]).bind gOut:=rfl
noncomputable abbrev zen:DS->Option Res:=(gSeq (gSet 5 (gOrV (g2 dLt (g2 dIx (gVar 4) (gC (.int (0)))) (gB1 dLen (gConsA (gVar 1) gNilA))) (gOrV (g2 dGt (g2 dIx (gVar 4) (gC (.int (0)))) (gC (.int (200)))) (gOrV (g2 dLt (g2 dIx (gVar 4) (gC (.int (1)))) (gC (.int (0)))) (g2 dGt (g2 dIx (gVar 4) (gC (.int (1)))) (g2 dIx (gVar 4) (gC (.int (0)))))))))
  (gSeq (gIf (gAnd (gB (g2 dGt (gVar 0) (gC (.int (1))))) (gTru (gVar 5))) (gRet (gC (.str "lot"))) gSkip)
  (gSeq (gIf (gB (g2 dEq (g2 dMod (gVar 0) (gC (.int (2)))) (gC (.int (0))))) (gRet (g2 dIx (gLst (gLstN (gConsA (gC (.str "end")) (gConsA (gC (.str "")) gNilA)))) (gB1 dInt (gConsA (g2 (dInT false) (gVar 2) (gLst (gCallN zaj 1 (gConsA (gVar 1) gNilA)))) gNilA)))) gSkip)
  (gRet (g2 dIx (gLst (gLstN (gConsA (gC (.str "telling")) (gConsA (gC (.str "")) gNilA)))) (gB1 dInt (gConsA (g2 dEq (gB1 dLen (gConsA (gVar 3) gNilA)) (gB1 dLen (gConsA (gLst (gCallN zaj 1 (gConsA (gVar 1) gNilA))) gNilA))) gNilA)))))))
noncomputable def zcl:List D->Option D:=gDef 6 zen
theorem zl6 (a0 a1 a2 a3 a4:D):zcl [a0,a1,a2,a3,a4]=(zen [some a0,some a1,some a2,some a3,some a4,none]).bind gOut:=rfl
noncomputable abbrev zoo:DS->Option Res:=(gSeq (gFor (gRange1 (gConsA (gB1 dMax2 (gConsA (gC (.int (1))) (gConsA (gB1 dMin2 (gConsA (gC (.int (10))) (gConsA (gB1 dLen (gConsA (gVar 0) gNilA)) gNilA))) gNilA))) gNilA)) (gName' 1)
   (gSeq (gSet 2 (gCall zbG 2 (gConsA (gVar 0) (gConsA (gVar 1) gNilA))))
  (gSeq (gSet 3 (gCall zci 2 (gConsA (gVar 2) (gConsA (g2 dAddV (gC (.int (1))) (g2 dMod (g2 dDiv (gVar 2) (gC (.int (3)))) (gC (.int (7))))) gNilA))))
  (gSeq (gSet 4 (gCall zbG 2 (gConsA (gVar 0) (gConsA (g2 dAddV (gVar 1) (gC (.int (1)))) gNilA))))
  (gSeq (gSet 5 (gCall zbi 2 (gConsA (gVar 3) (gConsA (gVar 4) gNilA))))
  (gSeq (gSet 6 (g2 dAddV (gB1 dLen (gConsA (gLst (gCallN zaj 1 (gConsA (gVar 3) gNilA))) gNilA)) (g2 dIx (gLst (gLstN (gConsA (gC (.int (0))) (gConsA (gC (.int (1))) (gConsA (g1 dNeg (gC (.int (1)))) (gConsA (gC (.int (0))) gNilA)))))) (g2 dMod (g2 dDiv (gVar 4) (gC (.int (7)))) (gC (.int (4)))))))
  (gSeq (gSet 7 (gLst (gComp (gRange1 (gConsA (gVar 6) gNilA)) [] (gTupD (gConsA (gVar 0) (gConsA (gC (.int (1))) gNilA))))))
  (gSeq (gSet 8 (gCall zcg 2 (gConsA (g2 dDiv (gVar 4) (gC (.int (2)))) (gConsA (gB1 dLen (gConsA (gVar 3) gNilA)) gNilA))))
  (gFor (gRange1 (gConsA (gC (.int (4))) gNilA)) (gName' 9)
   (gIf (gB (g2 dNe (gCall zaY 5 (gConsA (gVar 9) (gConsA (gVar 3) (gConsA (gVar 5) (gConsA (gVar 7) (gConsA (gVar 8) gNilA)))))) (gCall zcl 5 (gConsA (gVar 9) (gConsA (gVar 3) (gConsA (gVar 5) (gConsA (gVar 7) (gConsA (gVar 8) gNilA)))))))) (gRet (gC (.bool false))) gSkip))))))))))
  (gRet (gC (.bool true))))
noncomputable def zi5:List D->Option D:=gDef 10 zoo
theorem zqZ (a0:D):zi5 [a0]=(zoo [some a0,none,none,none,none,none,none,none,none,none]).bind gOut:=rfl
end MyLaw
open L2
namespace MyLaw
open PySem L2 Q1
theorem zfb (ns:List Int) (k:Nat):zbG [.list (ns.map .int),.int k]=some (.int (ns.getD k 0)):=by
 rw [zjF]
 simp only [gSeq,gIf,gB,g2,gVar,List.getElem?_cons_succ,List.getElem?_cons_zero,Option.join_some,gB1,gConsA,gNilA,Option.bind_some,zcM,zjc,gRet,zkn,gSkip,decide_eq_true_eq,gC]
 rw [List.length_map,List.getD_eq_getElem?_getD]
 by_cases h:k < ns.length
 ·rw [if_pos (by omega),zdC (v:=.int ns[k]) (by rw [List.getElem?_map,List.getElem?_eq_getElem h]; rfl),List.getElem?_eq_getElem h]
  rfl
 ·rw [if_neg (by omega),List.getElem?_eq_none (by omega)]
  rfl
end MyLaw
namespace MyLaw
open PySem L2 Q1
noncomputable def dR (r:List Int):D:=.tuple (r.map .int)
noncomputable def dPl (p:List (List Int)):D:=.tuple (p.map dR)
noncomputable def Rise (l:List Int):Prop:=l.Pairwise (· < ·)
noncomputable def led (r:List Int):List Int:=ss (r ++ r.map (· + 1))
noncomputable def Nx (r s:List Int):Prop:=s≠[] /\ Rise s /\ ∀ x∈s,x∈led r
noncomputable def Chn:List Int->List (List Int)->Prop
 | _,[]=>True
 | r,s :: q=>Nx r s /\ Chn s q
noncomputable def lst:List Int->List (List Int)->List Int
 | r,[]=>r
 | _,s :: q=>lst s q
theorem zik {s:List Int}:∀ {q:List (List Int)} {r:List Int},Chn r q->Nx (lst r q) s->Chn r (q ++ [s])
 | [],_,_,h=>⟨h,trivial⟩
 | _ :: _,_,h1,h2=>⟨h1.1,zik h1.2 h2⟩
theorem ziD {s:List Int}:∀ {q:List (List Int)} {r:List Int},lst r (q ++ [s])=s
 | [],_=>rfl
 | _ :: q,_=>ziD (q:=q)
structure Pl (p:List (List Int)):Prop where
 ex:∃ q,p=[0] :: q /\ Chn [0] q
theorem zc6 {x:Int} {r:List Int}:x∈led r↔x∈r \/ x - 1∈r:=by
 unfold led
 rw [zll,List.mem_append,List.mem_map]
 constructor
 ·rintro (h | ⟨y,h,e⟩)
  ·exact .inl h
  ·exact .inr (by have:x - 1=y:=by omega
                  rw [this]; exact h)
 ·rintro (h | h)
  ·exact .inl h
  ·exact .inr ⟨x - 1,h,by omega⟩
theorem ziH:∀ {l:List Int} {a b:Int},Rise l->(∀ x∈l,a<=x /\ x<=b)->(l.length:Int)<=max 0 (b - a + 1)
 | [],a,b,_,_=>by simp; omega
 | x :: l,a,b,h,hb=>by
   obtain ⟨h1,h2⟩:=List.pairwise_cons.mp h
   have hx:=hb x List.mem_cons_self
   have:=ziH (l:=l) (a:=x + 1) (b:=b) h2 fun y hy=>⟨by have:=h1 y hy; omega,(hb y (List.mem_cons_of_mem _ hy)).2⟩
   rw [List.length_cons]
   push_cast
   omega
theorem zir {i:Nat} {g:DS->Option D} {δ:DS} {ds:List D} {d:D} (h1:gVar i δ=some (.list ds)) (h2:g δ=some d) (h3:ds.length < 100000):gApp i g δ=some (.nx (δ.set i (some (.list (ds ++ [d]))))):=by
 unfold gApp
 rw [h1,h2]
 show (if ds.length < 100000 then _ else _)=_
 rw [if_pos h3]
theorem zqL {g:DS->Option D} {δ:DS} {d:D} {ns:List Int} (h:g δ=some d) (h2:dRow d=some (ns.map .int)) (h3:ns.length < 64):gSS g δ=some ((ss ns).map .int):=by
 unfold gSS
 rw [h,Option.bind_some,h2,Option.bind_some,zhe,Option.bind_some,if_pos h3]
theorem zp2 {a b:DS->Option D} {δ:DS} {x y:List D} (h1:a δ=some (.list x)) (h2:b δ=some (.list y)) (h3:x.length + y.length<=100000):g2N dCat a b δ=some (x ++ y):=by
 unfold g2N
 rw [h1,h2]
 show (if x.length + y.length<=100000 then _ else _)=_
 rw [if_pos h3]
theorem zdx {c:DS->Option Bool} {a b:DS->Option Res} {δ:DS} {r:Option Res} (x:Bool) (h:c δ=some x) (h1:x=true->a δ=r) (h2:x=false->b δ=r):gIf c a b δ=r:=by
 unfold gIf
 rw [h]
 cases x with
 | true=>exact h1 rfl
 | false=>exact h2 rfl
theorem zmw {α:Type} (enc:α->D) (l:List α) (lo hi:Option Int):∃ m:List α,cutD (l.map enc) lo hi=m.map enc /\ m.Sublist l:=by
 refine ⟨(l.drop (HT.sIx l.length 0 lo)).take (HT.sIx l.length l.length hi - HT.sIx l.length 0 lo),?_,(List.take_sublist _ _).trans (List.drop_sublist _ _)⟩
 unfold cutD
 rw [List.length_map,List.map_take,List.map_drop]
theorem zbE {f:List D->Option D} {g:DS->Option (List D)} {δ:DS} {ds:List D} {r:Option D} (h:g δ=some ds) (h2:f ds=r):gB1 f g δ=r:=by unfold gB1; rw [h]; exact h2
theorem zkh {g:DS->Option D} {δ:DS} {i:Int} (h:g δ=some (.int i)):gPart g δ=some (some i):=by unfold gPart; rw [h]; rfl
theorem zht (a b:Int):dAddV (.int a) (.int b)=some (.int (a + b)):=rfl
theorem zlD {a b:DS->Option D} {δ:DS} {r:List Int} (h1:a δ=some (.list (r.map .int))) (h2:b δ=some (.list (r.map .int)) \/ b δ=some (dR r)) (hl:r.length < 32):gSS (gLst (g2N dCat a (gLst (gComp (gItems b) [] (g2 dAddV (gVar 0) (gC (.int 1))))))) δ=some ((led r).map .int):=by
 have hi:gItems b δ=some (r.map .int):=by
  unfold gItems
  rcases h2 with h2 | h2
  ·rw [h2]; rfl
  ·rw [h2]; rfl
 have hc:gComp (gItems b) [] (g2 dAddV (gVar 0) (gC (.int 1))) δ=some ((r.map (· + 1)).map .int):=zc9 PyData.int PyData.int (fun x=>x + 1) r hi (by omega) (fun x _=>rfl)
 have hcat:=zp2 h1 (zA hc) (by simp; omega)
 refine zqL (zA hcat) ?_ (by simp; omega)
 rw [List.map_append]
 rfl
theorem zhR (c b:Int) (n:Nat) (hb:0 < b) (hn:n<=1000):Gets (zbW [.int c,.int b,.int (n:Nat)]) fun ds=>∃ l:List Int,ds=l.map .int /\ l.length=n /\ ∀ x∈l,0<=x /\ x < b:=by
 rw [zia]
 refine zG [some (.int c),some (.int b),some (.int (n:Nat)),some (.list []),none,none] rfl ?_
 refine zcT 0 n (fun i δ=>∃ (l:List Int) (x y:Option D),δ=[some (.int c),some (.int b),some (.int (n:Nat)),some (.list (l.map .int)),x,y] /\ l.length=i /\ ∀ x∈l,0<=x /\ x < b) (zbZ rfl (by omega)) ⟨[],none,none,rfl,rfl,by simp⟩ ?_ ?_
 ·rintro i δ hi ⟨l,x,y,rfl,hl,hx⟩
  have m1:dMulI (.int (c % 1000003)) (.int 48271)=some (.int (c % 1000003 * 48271)):=zcf (zbv (by decide) (by decide))
  have m2:dMulI (.int (0 + (i:Int))) (.int (0 + (i:Int)))=some (.int ((0 + (i:Int)) * (0 + (i:Int)))):=zcf (zbv (by omega) (by omega))
  have m3:dMulI (.int ((0 + (i:Int)) * (0 + (i:Int)))) (.int 69621)=some (.int ((0 + (i:Int)) * (0 + (i:Int)) * 69621)):=zcf (zbv (by decide) (by decide))
  have m4:dMulI (.int (0 + (i:Int))) (.int 16807)=some (.int ((0 + (i:Int)) * 16807)):=zcf (zbv (by decide) (by decide))
  refine ⟨_,[some (.int c),some (.int b),some (.int (n:Nat)),some (.list ((l ++ [_]).map .int)),some (.int (0 + (i:Int))),some (.int ((c % 1000003 * 48271 + (0 + (i:Int)) * (0 + (i:Int)) * 69621 + (0 + (i:Int)) * 16807) % 2147483647))],rfl,
   zaq [some (.int c),some (.int b),some (.int (n:Nat)),some (.list (l.map .int)),some (.int (0 + (i:Int))),some (.int ((c % 1000003 * 48271 + (0 + (i:Int)) * (0 + (i:Int)) * 69621 + (0 + (i:Int)) * 16807) % 2147483647))]
    (zJ (zj (zj (zj (zj (zj rfl rfl (zbw (by decide))) rfl m1) (zj (zj rfl rfl m2) rfl m3) rfl) (zj rfl rfl m4) rfl) rfl (zbw (by decide))))
    ((zir (d:=.int (((c % 1000003 * 48271 + (0 + (i:Int)) * (0 + (i:Int)) * 69621 + (0 + (i:Int)) * 16807) % 2147483647 * 39373 + c) % 2147483629 / 13 % b)) rfl
      (zj (zj (zj (zj (zj rfl rfl (zcf (zbv (by decide) (by decide)))) rfl rfl) rfl (zbw (by decide))) rfl (zh8 (by decide) (zbt (zcF (m:=4) (by decide)) (by decide)))) rfl (zbw hb)) (by simp; omega)).trans (by rw [List.map_append]; rfl)),l ++ [_],_,_,rfl,by simp [hl],?_⟩
  intro z hz
  rcases List.mem_append.mp hz with q | q
  ·exact hx z q
  ·rw [List.mem_singleton.mp q]
   exact ⟨Int.emod_nonneg _ (by omega),Int.emod_lt_of_pos _ hb⟩
 ·rintro δ' ⟨l,x,y,rfl,hl,hx⟩
  exact ret (.list (l.map .int)) rfl (.mk rfl ⟨l,rfl,hl,hx⟩)
theorem zhi (c b:Int) (n:Nat) (hb:0 < b) (hb2:bt b<=9000) (hn:n<=1000):Gets (za0 [.int c,.int b,.int (n:Nat)]) fun ds=>∃ l:List Int,ds=l.map .int /\ l.length=n /\ ∀ x∈l,0<=x /\ x < b:=by
 rw [zgv]
 refine zG [some (.int c),some (.int b),some (.int (n:Nat)),some (.list []),none] rfl ?_
 refine zcT 0 n (fun i δ=>∃ (c:Int) (l:List Int) (x:Option D),δ=[some (.int c),some (.int b),some (.int (n:Nat)),some (.list (l.map .int)),x] /\ l.length=i /\ ∀ x∈l,0<=x /\ x < b) (zbZ rfl (by omega)) ⟨c,[],none,rfl,rfl,by simp⟩ ?_ ?_
 ·rintro i δ hi ⟨c,l,x,rfl,hl,hx⟩
  refine ⟨_,[some (.int (c / b)),some (.int b),some (.int (n:Nat)),some (.list ((l ++ [c % b]).map .int)),some (.int (0 + (i:Int)))],rfl,
   zaq [some (.int c),some (.int b),some (.int (n:Nat)),some (.list ((l ++ [c % b]).map .int)),some (.int (0 + (i:Int)))] ((zir (d:=.int (c % b)) rfl (zj rfl rfl (zbw hb)) (by simp; omega)).trans (by rw [List.map_append]; rfl)) (zJ (zj rfl rfl (zh8 hb hb2))),c / b,l ++ [c % b],_,rfl,by simp [hl],?_⟩
  intro z hz
  rcases List.mem_append.mp hz with q | q
  ·exact hx z q
  ·rw [List.mem_singleton.mp q]
   exact ⟨Int.emod_nonneg _ (by omega),Int.emod_lt_of_pos _ hb⟩
 ·rintro δ' ⟨c,l,x,rfl,hl,hx⟩
  exact ret (.list (l.map .int)) rfl (.mk rfl ⟨l,rfl,hl,hx⟩)
theorem zlf {f:D->Option (Option D)} (hf:∀ (k:Nat) (x:Int),∃ b:Bool,f (.tuple [.int (k:Nat),.int x])=some (if b=true then some (.int x) else none)):∀ (l:List Int) (n:Nat),∃ m:List Int,fltD f (((l.map PyData.int).zipIdx n).map fun p=>.tuple [.int (p.2:Nat),p.1])=some (m.map .int) /\ m.Sublist l
 | [],n=>⟨[],rfl,.slnil⟩
 | x :: l,n=>by
   obtain ⟨m,e,hs⟩:=zlf hf l (n + 1)
   obtain ⟨b,hb⟩:=hf n x
   rw [List.map_cons,List.zipIdx_cons,List.map_cons,fltD,hb,Option.bind_some,e,Option.bind_some]
   cases b with
   | true=>exact ⟨x :: m,rfl,hs.cons₂ x⟩
   | false=>exact ⟨m,rfl,hs.cons x⟩
theorem zkx {l:List Int} {i:Int} (h0:0<=i) (h1:i < l.length):∃ x,x∈l /\ dIx (.list (l.map .int)) (.int i)=some (.int x):=by
 obtain ⟨k,rfl⟩:∃ k:Nat,i=(k:Int):=⟨i.toNat,by omega⟩
 have hk:k < l.length:=by omega
 exact ⟨l[k],List.getElem_mem hk,zdC (by rw [List.getElem?_map,List.getElem?_eq_getElem hk]; rfl)⟩
theorem led0:led [0]=[0,1]:=zpt (by simp) (by intro z; simp)
theorem zja (c:Int) (m:Nat) (hm1:1<=m) (hm:m<=24):Gets (zci [.int c,.int (m:Nat)]) fun d=>∃ p,d=dPl p /\ Pl p /\ p.length<=m /\ ∀ r∈p,r.length<=25:=by
 rw [zjb]
 have p18:dPow (.int 10) (.int 18)=some (.int (10 ^ 18)):=zp4 (k:=18) (by decide) (by decide)
 obtain ⟨many,hmany,hmany2,emany⟩:∃ many:Nat,100<=many /\ many<=300 /\ g2 dAddV (gC (.int (100))) (g2 dMulI (gC (.int (200))) (gB1 dInt (gConsA (g2 dGt (gVar 1) (gC (.int (12)))) gNilA))) [some (.int c),some (.int (m:Nat)),some (.int (c / 4)),none,none,none,none,none,none]=some (.int (many:Nat)):=by
  by_cases h:(12:Int) < (m:Int)
  ·refine ⟨300,by decide,by decide,zj rfl (zj rfl (show _=some (.int 1) from ?_) (zcf (zbv (by decide) (by decide)))) rfl⟩
   show some (PyData.int (if decide ((12:Int) < (m:Int))=true then 1 else 0))=_
   rw [decide_eq_true h]; rfl
  ·refine ⟨100,by decide,by decide,zj rfl (zj rfl (show _=some (.int 0) from ?_) (zcf (zbv (by decide) (by decide)))) rfl⟩
   show some (PyData.int (if decide ((12:Int) < (m:Int))=true then 1 else 0))=_
   rw [decide_eq_false h]; rfl
 have hm0:(0:Int) < (many:Int):=Int.ofNat_lt.mpr (Nat.lt_of_lt_of_le (by decide) hmany)
 have hm1000:many<=1000:=Nat.le_trans hmany2 (by decide)
 refine zG [some (.int c),some (.int (m:Nat)),some (.int (c / 4)),none,none,none,none,none,none] (zJ (zj rfl rfl (zh8 (by decide) (zbt (zcF (m:=4) (by decide)) (by decide))))) ?_
 refine zG [some (.int c),some (.int (m:Nat)),some (.int (c / 4)),some (.int (many:Nat)),none,none,none,none,none] (zJ emany) ?_
 obtain ⟨_,e1,l1,rfl,hl1,hx1⟩:=zhR (c / 4) 3 many (by decide) hm1000
 refine zG [some (.int c),some (.int (m:Nat)),some (.int (c / 4)),some (.int (many:Nat)),some (.list (l1.map .int)),none,none,none,none] (zJ (zA (zP (zb rfl (zb rfl (zb rfl rfl))) rfl e1))) ?_
 have dig:∃ dg:List Int,dg.length=many /\ gIf (gB (g2 dGe (gB1 dAbs (gConsA (gVar 0) gNilA)) (g2 dPow (gC (.int (10))) (gC (.int (18)))))) (gSet 4 (gLst (gCallN za0 3 (gConsA (gVar 2) (gConsA (gC (.int (3))) (gConsA (gVar 3) gNilA)))))) gSkip [some (.int c),some (.int (m:Nat)),some (.int (c / 4)),some (.int (many:Nat)),some (.list (l1.map .int)),none,none,none,none]
   =some (.nx [some (.int c),some (.int (m:Nat)),some (.int (c / 4)),some (.int (many:Nat)),some (.list (dg.map .int)),none,none,none,none]):=by
  obtain ⟨_,e2,l2,rfl,hl2,hx2⟩:=zhi (c / 4) 3 many (by decide) (zbt (zcF (m:=4) (by decide)) (by decide)) hm1000
  have hc:gB (g2 dGe (gB1 dAbs (gConsA (gVar 0) gNilA)) (g2 dPow (gC (.int (10))) (gC (.int (18))))) [some (.int c),some (.int (m:Nat)),some (.int (c / 4)),some (.int (many:Nat)),some (.list (l1.map .int)),none,none,none,none]=some (decide ((10 ^ 18:Int)<=(if c < 0 then -c else c))):=zaI (zj rfl p18 rfl)
  by_cases h:((10 ^ 18:Int)<=(if c < 0 then -c else c))
  ·exact ⟨l2,hl2,zdx true (by rw [hc,decide_eq_true h]) (fun _=>zJ (zA (zP (zb rfl (zb rfl (zb rfl rfl))) rfl e2))) (fun z=>nomatch z)⟩
  ·exact ⟨l1,hl1,zdx false (by rw [hc,decide_eq_false h]) (fun z=>nomatch z) (fun _=>rfl)⟩
 obtain ⟨dg,hdg,edg⟩:=dig
 refine zG _ edg ?_
 refine zG [some (.int c),some (.int (m:Nat)),some (.int (c / 4)),some (.int (many:Nat)),some (.list (dg.map .int)),some (.list [dR [0]]),none,none,none] rfl ?_
 refine zG [some (.int c),some (.int (m:Nat)),some (.int (c / 4)),some (.int (many:Nat)),some (.list (dg.map .int)),some (.list [dR [0]]),some (.list (([0,1]:List Int).map .int)),none,none] rfl ?_
 refine zG [some (.int c),some (.int (m:Nat)),some (.int (c / 4)),some (.int (many:Nat)),some (.list (dg.map .int)),some (.list [dR [0]]),some (.list (([0,1]:List Int).map .int)),some (.int 0),none] rfl ?_
 refine zeH (fun k δ=>∃ (q:List (List Int)) (come:List Int) (pos:Nat) (z:Option D),δ=[some (.int c),some (.int (m:Nat)),some (.int (c / 4)),some (.int (many:Nat)),some (.list (dg.map .int)),some (.list (([0] :: q).map dR)),some (.list (come.map .int)),some (.int (pos:Nat)),z] /\
   Chn [0] q /\ q.length + 1<=m /\ (come=[] \/ come=led (lst [0] q)) /\ Rise come /\ (∀ x∈come,0<=x /\ x<=(q.length:Int) + 1) /\ (∀ r∈q,r.length<=25) /\ k=2 * (m - q.length) + (if come=[] then 0 else 1))
  (fun δ=>∃ (q:List (List Int)) (x y z:Option D),δ=[some (.int c),some (.int (m:Nat)),some (.int (c / 4)),some (.int (many:Nat)),some (.list (dg.map .int)),some (.list (([0] :: q).map dR)),x,y,z] /\ Chn [0] q /\ q.length + 1<=m /\ ∀ r∈q,r.length<=25)
  (2 * m + 1) ⟨[],[0,1],0,none,rfl,trivial,by simpa using hm1,.inr led0.symm,by unfold Rise; simp,by intro x hx; simp at hx; rcases hx with h | h <;> subst h <;> decide,by simp,by simp⟩ ?_ ?_
 ·rintro k δ ⟨q,come,pos,z,rfl,hq,hqm,hcome,hr,hb,h25,rfl⟩
  have hlen:come.length<=q.length + 2:=by
   have:=ziH hr hb
   omega
  have cond:gAnd (gB (g2 dLt (gB1 dLen (gConsA (gVar 5) gNilA)) (gVar 1))) (gB (g2 dGt (gB1 dLen (gConsA (gVar 6) gNilA)) (gC (.int (0))))) [some (.int c),some (.int (m:Nat)),some (.int (c / 4)),some (.int (many:Nat)),some (.list (dg.map .int)),some (.list (([0] :: q).map dR)),some (.list (come.map .int)),some (.int (pos:Nat)),z]
    =some (decide ((((([0] :: q).map dR).length:Nat):Int) < (m:Int)) && decide ((0:Int) < (((come.map PyData.int).length:Nat):Int))):=by
   by_cases h:((((([0] :: q).map dR).length:Nat):Int) < (m:Int))
   ·rw [decide_eq_true h,Bool.true_and]
    exact znH (zaI (b:=true) (show _=_ from congrArg (fun b=>some (PyData.bool b)) (decide_eq_true h))) (zaI rfl)
   ·rw [decide_eq_false h,Bool.false_and]
    have h1:gB (g2 dLt (gB1 dLen (gConsA (gVar 5) gNilA)) (gVar 1)) [some (.int c),some (.int (m:Nat)),some (.int (c / 4)),some (.int (many:Nat)),some (.list (dg.map .int)),some (.list (([0] :: q).map dR)),some (.list (come.map .int)),some (.int (pos:Nat)),z]=some false:=
     zaI (b:=false) (show _=_ from congrArg (fun b=>some (PyData.bool b)) (decide_eq_false h))
    unfold gAnd
    rw [h1]; rfl
  rw [cond]
  cases hcd:(decide ((((([0] :: q).map dR).length:Nat):Int) < (m:Int)) && decide ((0:Int) < (((come.map PyData.int).length:Nat):Int))) with
  | false=>exact .inl ⟨rfl,q,_,_,_,rfl,hq,hqm,h25⟩
  | true=>
    rw [Bool.and_eq_true,decide_eq_true_eq,decide_eq_true_eq] at hcd
    have hqm2:q.length + 1 < m:=by
     have:=hcd.1
     simp at this
     omega
    have hne:come≠[]:=by
     intro e
     subst e
     simp at hcd
    have hcl:come=led (lst [0] q):=hcome.resolve_left hne
    refine .inr ⟨rfl,?_⟩
    have comp:∃ r1:List Int,gCompL (gEnumerate (gVar 6)) 2 [4,3,7] (gTupT 2 (gConsT (gName' 0) (gConsT (gName' 1) gNilT))) (gB (g2 dGt (g2 dIx (gVar 2) (g2 dMod (g2 dAddV (gVar 4) (gVar 0)) (gVar 3))) (gC (.int (0))))) (gVar 1)
      [some (.int c),some (.int (m:Nat)),some (.int (c / 4)),some (.int (many:Nat)),some (.list (dg.map .int)),some (.list (([0] :: q).map dR)),some (.list (come.map .int)),some (.int (pos:Nat)),z]=some (r1.map .int) /\ r1.Sublist come:=by
     obtain ⟨f,ef⟩:∃ f:D->Option (Option D),f=fun d=>(gTupT 2 (gConsT (gName' 0) (gConsT (gName' 1) gNilT)) d (List.replicate 2 none ++ captD [4,3,7] [some (.int c),some (.int (m:Nat)),some (.int (c / 4)),some (.int (many:Nat)),some (.list (dg.map .int)),some (.list (([0] :: q).map dR)),some (.list (come.map .int)),some (.int (pos:Nat)),z])).bind fun δ1=>
       (gB (g2 dGt (g2 dIx (gVar 2) (g2 dMod (g2 dAddV (gVar 4) (gVar 0)) (gVar 3))) (gC (.int (0)))) δ1).bind fun b=>if b=true then (gVar 1 δ1).map some else some none:=⟨_,rfl⟩
     have hf:∀ (k:Nat) (x:Int),∃ b:Bool,f (.tuple [.int (k:Nat),.int x])=some (if b=true then some (.int x) else none):=by
      intro k x
      obtain ⟨y,_,ey⟩:=zkx (l:=dg) (i:=((pos:Nat) + (k:Nat):Int) % (many:Nat)) (Int.emod_nonneg _ (Int.ne_of_gt hm0)) (by rw [hdg]; exact Int.emod_lt_of_pos _ hm0)
      refine ⟨decide (0 < y),?_⟩
      rw [ef]
      show (Option.bind (some [some (PyData.int (k:Nat)),some (.int x),some (.list (dg.map .int)),some (.int (many:Nat)),some (.int (pos:Nat))]) _)=_
      rw [Option.bind_some]
      have hb:gB (g2 dGt (g2 dIx (gVar 2) (g2 dMod (g2 dAddV (gVar 4) (gVar 0)) (gVar 3))) (gC (.int (0)))) [some (PyData.int (k:Nat)),some (.int x),some (.list (dg.map .int)),some (.int (many:Nat)),some (.int (pos:Nat))]=some (decide (0 < y)):=
       zaI (zj (zj rfl (zj (zj rfl rfl rfl) rfl (zbw hm0)) ey) rfl rfl)
      rw [hb,Option.bind_some]
      cases decide (0 < y) <;> rfl
     obtain ⟨m1,em1,hs1⟩:=zlf hf come 0
     refine ⟨m1,?_,hs1⟩
     unfold gCompL
     rw [show gEnumerate (gVar 6) [some (.int c),some (.int (m:Nat)),some (.int (c / 4)),some (.int (many:Nat)),some (.list (dg.map .int)),some (.list (([0] :: q).map dR)),some (.list (come.map .int)),some (.int (pos:Nat)),z]=some (enumD (come.map .int)) from rfl,Option.bind_some,if_pos (by rw [zeO,List.length_map]; omega)]
     rw [ef] at em1
     exact em1
    obtain ⟨r1,er1,hs1⟩:=comp
    have slice:∃ r:List Int,r.Sublist come /\ gIf (gB (g2 dGt (g2 dMod (gVar 0) (gC (.int (4)))) (gC (.int (1))))) (gSet 8 (gLst (gSlL (gVar 6) (gPart (g2 dIx (gVar 4) (g2 dMod (gVar 7) (gVar 3)))) (gPart (gB1 dMax2 (gConsA (gC (.int (0))) (gConsA (g2 dSub (gB1 dLen (gConsA (gVar 6) gNilA)) (g2 dIx (gVar 4) (g2 dMod (g2 dAddV (gVar 7) (gC (.int (1)))) (gVar 3)))) gNilA))))))) gSkip
      [some (.int c),some (.int (m:Nat)),some (.int (c / 4)),some (.int (many:Nat)),some (.list (dg.map .int)),some (.list (([0] :: q).map dR)),some (.list (come.map .int)),some (.int ((pos:Nat) + (come.map PyData.int).length)),some (.list (r1.map .int))]
      =some (.nx [some (.int c),some (.int (m:Nat)),some (.int (c / 4)),some (.int (many:Nat)),some (.list (dg.map .int)),some (.list (([0] :: q).map dR)),some (.list (come.map .int)),some (.int ((pos:Nat) + (come.map PyData.int).length)),some (.list (r.map .int))]):=by
     obtain ⟨y1,_,ey1⟩:=zkx (l:=dg) (i:=((pos:Nat) + (come.map PyData.int).length:Int) % (many:Nat)) (Int.emod_nonneg _ (Int.ne_of_gt hm0)) (by rw [hdg]; exact Int.emod_lt_of_pos _ hm0)
     obtain ⟨y2,_,ey2⟩:=zkx (l:=dg) (i:=((pos:Nat) + (come.map PyData.int).length + 1:Int) % (many:Nat)) (Int.emod_nonneg _ (Int.ne_of_gt hm0)) (by rw [hdg]; exact Int.emod_lt_of_pos _ hm0)
     have hc:gB (g2 dGt (g2 dMod (gVar 0) (gC (.int (4)))) (gC (.int (1)))) [some (.int c),some (.int (m:Nat)),some (.int (c / 4)),some (.int (many:Nat)),some (.list (dg.map .int)),some (.list (([0] :: q).map dR)),some (.list (come.map .int)),some (.int ((pos:Nat) + (come.map PyData.int).length)),some (.list (r1.map .int))]=some (decide (1 < c % 4)):=
      zaI (zj (zj rfl rfl (zbw (by decide))) rfl rfl)
     by_cases h:1 < c % 4
     ·obtain ⟨r2,er2,hs2⟩:=zmw PyData.int come (some y1) (some (if ((come.map PyData.int).length:Int) - y2 > 0 then ((come.map PyData.int).length:Int) - y2 else 0))
      refine ⟨r2,hs2,zdx true (by rw [hc,decide_eq_true h]) (fun _=>zJ (zA ?_)) (fun z=>nomatch z)⟩
      have f1:gPart (g2 dIx (gVar 4) (g2 dMod (gVar 7) (gVar 3))) [some (.int c),some (.int (m:Nat)),some (.int (c / 4)),some (.int (many:Nat)),some (.list (dg.map .int)),some (.list (([0] :: q).map dR)),some (.list (come.map .int)),some (.int ((pos:Nat) + (come.map PyData.int).length)),some (.list (r1.map .int))]=some (some y1):=by
       exact zkh (zj rfl (zj rfl rfl (zbw hm0)) ey1)
      have f2:gPart (gB1 dMax2 (gConsA (gC (.int (0))) (gConsA (g2 dSub (gB1 dLen (gConsA (gVar 6) gNilA)) (g2 dIx (gVar 4) (g2 dMod (g2 dAddV (gVar 7) (gC (.int (1)))) (gVar 3)))) gNilA))) [some (.int c),some (.int (m:Nat)),some (.int (c / 4)),some (.int (many:Nat)),some (.list (dg.map .int)),some (.list (([0] :: q).map dR)),some (.list (come.map .int)),some (.int ((pos:Nat) + (come.map PyData.int).length)),some (.list (r1.map .int))]
        =some (some (if ((come.map PyData.int).length:Int) - y2 > 0 then ((come.map PyData.int).length:Int) - y2 else 0)):=by
       have g:g2 dSub (gB1 dLen (gConsA (gVar 6) gNilA)) (g2 dIx (gVar 4) (g2 dMod (g2 dAddV (gVar 7) (gC (.int (1)))) (gVar 3))) [some (.int c),some (.int (m:Nat)),some (.int (c / 4)),some (.int (many:Nat)),some (.list (dg.map .int)),some (.list (([0] :: q).map dR)),some (.list (come.map .int)),some (.int ((pos:Nat) + (come.map PyData.int).length)),some (.list (r1.map .int))]=some (.int (((come.map PyData.int).length:Int) - y2)):=
        zj rfl (zj rfl (zj (zj rfl rfl rfl) rfl (zbw hm0)) ey2) rfl
       exact zkh (zbE (zb rfl (zb g rfl)) rfl)
      unfold gSlL
      rw [f1,f2]
      show some (cutD (come.map .int) _ _)=_
      rw [er2]
     ·exact ⟨r1,hs1,zdx false (by rw [hc,decide_eq_false h]) (fun z=>nomatch z) (fun _=>rfl)⟩
    obtain ⟨r,hs,esl⟩:=slice
    have hrr:Rise r:=hr.sublist hs
    have hrl:r.length<=25:=by have:=hs.length_le; omega
    have hrb:∀ x∈r,0<=x /\ x<=(q.length:Int) + 1:=fun x hx=>hb x (hs.subset hx)
    have e6:=zlD (a:=gVar 8) (b:=gVar 8) (δ:=[some (.int c),some (.int (m:Nat)),some (.int (c / 4)),some (.int (many:Nat)),some (.list (dg.map .int)),some (.list (([0] :: q).map dR)),some (.list (come.map .int)),some (.int ((pos:Nat) + (come.map PyData.int).length)),some (.list (r.map .int))]) (r:=r) rfl (.inl rfl) (by omega)
    by_cases hre:r=[]
    ·subst hre
     refine ⟨[some (.int c),some (.int (m:Nat)),some (.int (c / 4)),some (.int (many:Nat)),some (.list (dg.map .int)),some (.list (([0] :: q).map dR)),some (.list (([]:List Int).map .int)),some (.int (((pos + come.length:Nat):Nat):Int)),some (.list (([]:List Int).map .int))],2 * (m - q.length),?_,by rw [if_neg hne]; omega,q,[],pos + come.length,_,rfl,hq,hqm,.inl rfl,.nil,by simp,h25,by simp⟩
     refine zaq _ (zJ (zA er1)) (zaq _ (zJ (zj rfl rfl rfl)) (zaq _ esl (zaq _ (zJ (zA e6)) ?_)))
     refine (zdx false rfl (fun z=>nomatch z) fun _=>rfl).trans ?_
     rw [List.length_map]
     push_cast
     rfl
    ·have hnx:Nx (lst [0] q) r:=⟨hre,hrr,fun x hx=>hcl ▸ hs.subset hx⟩
     refine ⟨[some (.int c),some (.int (m:Nat)),some (.int (c / 4)),some (.int (many:Nat)),some (.list (dg.map .int)),some (.list (([0] :: (q ++ [r])).map dR)),some (.list ((led r).map .int)),some (.int (((pos + come.length:Nat):Nat):Int)),some (.list (r.map .int))],2 * (m - (q ++ [r]).length) + (if led r=[] then 0 else 1),?_,?_,q ++ [r],led r,pos + come.length,_,rfl,zik hq hnx,by simp; omega,.inr (by rw [ziD]),zcH,?_,?_,rfl⟩
     ·refine zaq _ (zJ (zA er1)) (zaq _ (zJ (zj rfl rfl rfl)) (zaq _ esl (zaq _ (zJ (zA e6)) ?_)))
      have hpos:(0:Int) < ((r.map PyData.int).length:Int):=by
       have:=List.length_pos_iff.mpr hre
       simp; omega
      refine (zdx true (zaI (b:=true) (show _=_ from congrArg (fun b=>some (PyData.bool b)) (decide_eq_true hpos))) (fun _=>zir (ds:=([0] :: q).map dR) (d:=dR r) rfl rfl (by simp; omega)) fun z=>nomatch z).trans ?_
      rw [List.length_map,<- List.cons_append,List.map_append]
      push_cast
      rfl
     ·have hl:led r≠[]:=fun e=>by
       obtain ⟨x,hx⟩:=List.exists_mem_of_ne_nil r hre
       have:=zc6.mpr (.inl hx)
       rw [e] at this; simp at this
      rw [if_neg hl,if_neg hne]
      simp
      omega
     ·intro x hx
      rcases zc6.mp hx with h | h
      ·have:=hrb x h; simp; omega
      ·have:=hrb _ h; simp; omega
     ·intro s hs'
      rcases List.mem_append.mp hs' with h | h
      ·exact h25 s h
      ·rw [List.mem_singleton.mp h]; exact hrl
 ·rintro δ' ⟨q,x,y,z,rfl,hq,hqm,h25⟩
  refine ret (dPl ([0] :: q)) rfl (.mk rfl ⟨[0] :: q,rfl,⟨q,rfl,hq⟩,by simpa using hqm,fun r hr=>?_⟩)
  rcases List.mem_cons.mp hr with h | h
  ·rw [h]; decide
  ·exact h25 r h
end MyLaw
namespace MyLaw
open PySem L2 Q1
theorem zpb {i:Int} {T:List Int}:dIn (.int i) (.list (T.map .int))=some (.bool (decide (i∈T))):=by
 have hf:(flatD (.int i) && (T.map PyData.int).all flatD)=true:=by simp [flatD]
 show (if (flatD (.int i) && (T.map PyData.int).all flatD)=true then some (PyData.bool ((T.map PyData.int).any fun z=>eqD z (.int i))) else none)=_
 rw [if_pos hf,List.any_map]
 congr 2
 rw [Bool.eq_iff_iff,List.any_eq_true,decide_eq_true_eq]
 constructor
 ·rintro ⟨x,hx,e⟩
  rw [Function.comp,zlz,decide_eq_true_eq] at e
  rw [<- e]; exact hx
 ·intro h
  exact ⟨i,h,by rw [Function.comp,zlz]; simp⟩
theorem znl {i:Int} {T:List Int}:dIn (.int i) (dR T)=some (.bool (decide (i∈T))):=zpb
theorem dd {a:Int} (b:Int) (h:0 < b) (h2:b.natAbs < 2 ^ 70):dDiv (.int a) (.int b)=some (.int (a / b)):=zh8 h (zbt (zcF h2) (by decide))
theorem zpJ {a b:DS->Option D} {δ:DS} {x y:Bool} (h1:a δ=some (.bool x)) (h2:x=true->b δ=some (.bool y)):gAndV a b δ=some (.bool (x && y)):=by
 unfold gAndV
 rw [zaI h1,Option.bind_some]
 cases x with
 | true=>rw [if_pos rfl,h2 rfl]; rfl
 | false=>rfl
theorem zoz {p:List (List Int)} {i:Int} (h0:0<=i) (h1:i < (p.length:Int)):dIx (dPl p) (.int i)=some (dR (p.getD i.toNat [])):=by
 obtain ⟨k,rfl⟩:∃ k:Nat,i=(k:Int):=⟨i.toNat,by omega⟩
 have hk:k < p.length:=by omega
 refine zdC ?_
 rw [List.getElem?_map,Int.toNat_natCast,List.getD_eq_getElem?_getD,List.getElem?_eq_getElem hk]
 rfl
end MyLaw
namespace MyLaw
open PySem L2 Q1
noncomputable abbrev WF:=Int->Int->Int
noncomputable def dC (c:Int×Int):D:=.tuple [.int c.1,.int c.2]
noncomputable def stepF (F:WF) (c:Int×Int):WF:=fun x y=>F x y + (if x=c.1 + 1 /\ y=c.2 then F c.1 c.2 else 0) + (if x=c.1 /\ y=c.2 + 1 then F c.1 c.2 else 0)
noncomputable def beg0 (c:Int×Int):WF:=fun x y=>if x=c.1 /\ y=c.2 then 1 else 0
noncomputable def rowC (n:Nat) (r:List Int):List (Int×Int):=r.map fun b=>(b,(n:Int) - b)
noncomputable def cnts:Nat->List (List Int)->List (Int×Int)
 | _,[]=>[]
 | n,r :: p=>rowC n r ++ cnts (n + 1) p
theorem zdy (r:List Int):∀ (p:List (List Int)) (n:Nat),cnts n (p ++ [r])=cnts n p ++ rowC (n + p.length) r
 | [],n=>by simp [cnts]
 | s :: p,n=>by
   rw [List.cons_append,cnts,cnts,zdy r p (n + 1),List.append_assoc,List.length_cons,show n + 1 + p.length=n + (p.length + 1) by omega]
theorem zfP:∀ (p:List (List Int)) (n:Nat),(∀ r∈p,r.length<=25)->(cnts n p).length<=25 * p.length
 | [],_,_=>by simp [cnts]
 | r :: p,n,h=>by
   have h1:=zfP p (n + 1) fun s hs=>h s (List.mem_cons_of_mem _ hs)
   have h2:=h r List.mem_cons_self
   rw [cnts,List.length_append,List.length_cons,rowC,List.length_map]
   omega
noncomputable def lv (A:Int->Int) (r:List Int) (b:Int):Int:=(if b - 1∈r then A (b - 1) else 0) + (if b∈r then A b else 0)
theorem znC (A:Int->Int) (b:Int):lv A [] b=0:=by simp [lv]
theorem zmy {A:Int->Int} {r s:List Int} (h:∀ x,x∈r↔x∈s) (b:Int):lv A r b=lv A s b:=by simp only [lv,h]
noncomputable def WW:(Int->Int)->List (List Int)->Nat->Int->Int
 | A,_,0,b=>A b
 | _,[],_ + 1,_=>0
 | A,r :: p,k + 1,b=>WW (lv A r) p k b
theorem WW_0 (A:Int->Int) (p:List (List Int)):WW A p 0=A:=by funext b; cases p <;> rfl
theorem zej:∀ (p:List (List Int)) (A:Int->Int) (k:Nat) (b:Int),WW A p (k + 1) b=lv (WW A p k) (p.getD k []) b
 | [],A,k,b=>by
   rw [show ([]:List (List Int)).getD k []=[] from rfl,znC]; rfl
 | r :: p,A,0,b=>by
   show WW (lv A r) p 0 b=lv (WW A (r :: p) 0) r b
   rw [WW_0,WW_0]
 | r :: p,A,k + 1,b=>by
   show WW (lv A r) p (k + 1) b=lv (WW (lv A r) p k) (p.getD k []) b
   exact zej p (lv A r) k b
structure Lev (n:Nat) (F:WF) (A B:Int->Int):Prop where
 at0:∀ x y:Int,x + y=(n:Int)->F x y=A x
 at1:∀ x y:Int,x + y=(n:Int) + 1->F x y=B x
 up:∀ x y:Int,(n:Int) + 1 < x + y->F x y=0
theorem zmg {n:Nat} {F:WF} {A:Int->Int} {bs:List Int} {b:Int} (h:Lev n F A (lv A bs)) (hb:b∉bs):Lev n (stepF F (b,(n:Int) - b)) A (lv A (b :: bs)) /\ ∀ x y:Int,x + y < (n:Int)->stepF F (b,(n:Int) - b) x y=F x y:=by
 have e:∀ x y,stepF F (b,(n:Int) - b) x y=F x y + (if x=b + 1 /\ y=(n:Int) - b then A b else 0) + (if x=b /\ y=(n:Int) - b + 1 then A b else 0):=by
  intro x y
  unfold stepF
  rw [h.at0 b ((n:Int) - b) (by omega)]
 refine ⟨⟨?_,?_,?_⟩,?_⟩
 ·intro x y hxy
  rw [e,if_neg (by omega),if_neg (by omega),h.at0 x y hxy]; omega
 ·intro x y hxy
  rw [e,h.at1 x y hxy]
  have e1:(x=b + 1 /\ y=(n:Int) - b)↔x - 1=b:=by constructor <;> intro z <;> omega
  have e2:(x=b /\ y=(n:Int) - b + 1)↔x=b:=by constructor <;> intro z <;> omega
  simp only [e1,e2,lv,List.mem_cons]
  by_cases c1:x - 1=b
  ·have c2:¬ x=b:=by omega
   have c3:x - 1∉bs:=by rw [c1]; exact hb
   simp only [c1,c2,true_or,false_or,if_true,if_false,if_neg hb]
   omega
  ·by_cases c2:x=b
   ·subst c2
    simp only [c1,true_or,false_or,if_true,if_false,if_neg hb]
    omega
   ·simp only [c1,c2,false_or,if_false]
    omega
 ·intro x y hxy
  rw [e,if_neg (by omega),if_neg (by omega),h.up x y hxy]; rfl
 ·intro x y hxy
  rw [e,if_neg (by omega),if_neg (by omega)]; omega
theorem zkt {n:Nat} {A:Int->Int}:∀ (r bs:List Int) (F:WF),Lev n F A (lv A bs)->(∀ x∈r,x∉bs)->r.Nodup->Lev n ((rowC n r).foldl stepF F) A (lv A (r ++ bs)) /\ ∀ x y:Int,x + y < (n:Int)->(rowC n r).foldl stepF F x y=F x y
 | [],bs,F,h,_,_=>⟨h,fun _ _ _=>rfl⟩
 | b :: r,bs,F,h,hd,nd=>by
   obtain ⟨h1,h2⟩:=zmg h (hd b List.mem_cons_self)
   obtain ⟨n1,n2⟩:=List.nodup_cons.mp nd
   obtain ⟨h3,h4⟩:=zkt r (b :: bs) _ h1 (fun x hx z=>by
    rcases List.mem_cons.mp z with q | q
    ·subst q; exact n1 hx
    ·exact hd x (List.mem_cons_of_mem _ hx) q) n2
   refine ⟨?_,fun x y hxy=>(h4 x y hxy).trans (h2 x y hxy)⟩
   have:lv A (r ++ b :: bs)=lv A ((b :: r) ++ bs):=by
    funext x
    exact zmy (fun z=>by simp only [List.mem_append,List.mem_cons,List.cons_append]; constructor <;> rintro (q | q | q) <;> simp [q]) x
   rw [<- this]
   exact h3
theorem zio:∀ (p:List (List Int)) (n:Nat) (A:Int->Int) (F:WF),(∀ r∈p,r.Nodup)->(∀ x y:Int,x + y=(n:Int)->F x y=A x)->(∀ x y:Int,(n:Int) < x + y->F x y=0)->
  ∀ x y:Int,(x + y < (n:Int)->(cnts n p).foldl stepF F x y=F x y) /\ ∀ k:Nat,x + y=(n:Int) + (k:Int)->(cnts n p).foldl stepF F x y=WW A p k x
 | [],n,A,F,_,h0,h1,x,y=>by
   refine ⟨fun _=>rfl,fun k hk=>?_⟩
   show F x y=_
   cases k with
   | zero=>rw [WW_0]; exact h0 x y (by omega)
   | succ k=>exact h1 x y (by omega)
 | r :: p,n,A,F,hn,h0,h1,x,y=>by
   have L0:Lev n F A (lv A []):=⟨h0,fun x y q=>by rw [znC]; exact h1 x y (by omega),fun x y q=>h1 x y (by omega)⟩
   obtain ⟨L1,K1⟩:=zkt r [] F L0 (fun x _ z=>by simp at z) (hn r List.mem_cons_self)
   rw [List.append_nil] at L1
   have ih:=zio p (n + 1) (lv A r) ((rowC n r).foldl stepF F) (fun s hs=>hn s (List.mem_cons_of_mem _ hs)) (fun x y q=>L1.at1 x y (by push_cast at q; omega)) (fun x y q=>L1.up x y (by push_cast at q; omega)) x y
   rw [cnts,List.foldl_append]
   refine ⟨fun q=>(ih.1 (by push_cast; omega)).trans (K1 x y q),fun k hk=>?_⟩
   cases k with
   | zero=>
     rw [WW_0,ih.1 (by push_cast; omega)]
     exact L1.at0 x y (by omega)
   | succ k=>exact ih.2 k (by push_cast; push_cast at hk; omega)
theorem zeT {l:List Int} (h:Rise l):l.Nodup:=h.imp fun z e=>by omega
theorem zkM:∀ {q:List (List Int)} {r:List Int} {n:Nat},(∀ x∈r,0<=x /\ x<=(n:Int))->Chn r q->(∀ s∈q,s.Nodup) /\ ∀ k,∀ x∈q.getD k [],0<=x /\ x<=((n + 1 + k:Nat):Int)
 | [],_,_,_,_=>⟨by simp,fun k x hx=>by simp at hx⟩
 | s :: q,r,n,hr,hc=>by
   have hs:∀ x∈s,0<=x /\ x<=((n + 1:Nat):Int):=fun x hx=>by
    rcases zc6.mp (hc.1.2.2 x hx) with h | h
    ·have:=hr x h; omega
    ·have:=hr _ h; omega
   obtain ⟨i1,i2⟩:=zkM (n:=n + 1) hs hc.2
   refine ⟨fun t ht=>?_,fun k x hx=>?_⟩
   ·rcases List.mem_cons.mp ht with z | z
    ·rw [z]; exact zeT hc.1.2.1
    ·exact i1 t z
   ·cases k with
    | zero=>exact hs x (by simpa using hx)
    | succ k=>
      have:=i2 k x (by simpa using hx)
      omega
theorem zhE {p:List (List Int)} (h:Pl p):(∀ s∈p,s.Nodup) /\ ∀ k,∀ x∈p.getD k [],0<=x /\ x<=(k:Int):=by
 obtain ⟨q,rfl,hc⟩:=h.ex
 obtain ⟨i1,i2⟩:=zkM (q:=q) (r:=[0]) (n:=0) (by simp) hc
 refine ⟨fun s hs=>?_,fun k x hx=>?_⟩
 ·rcases List.mem_cons.mp hs with z | z
  ·rw [z]; simp
  ·exact i1 s z
 ·cases k with
  | zero=>simp at hx; subst hx; simp
  | succ k=>
    have:=i2 k x (by simpa using hx)
    omega
structure Dt (kds:List (D×D)) (F:WF):Prop where
 fn:fnD kds=false
 get2:∀ b g:Int,(dLook kds [.inl b,.inl g]).getD (.int 0)=.int (F b g)
instance {kds:List (D×D)} {F:WF}:CoeFun (Dt kds F) (fun _=>∀ b g:Int,(dLook kds [.inl b,.inl g]).getD (.int 0)=.int (F b g)):=⟨Dt.get2⟩
theorem zoT {kds:List (D×D)} {k:List Key} {d:D} (h:fnD kds=false):fnD (dPutD kds k d)=false:=by
 unfold dPutD
 split
 ·cases kds with
  | nil=>rfl
  | cons p r=>
    obtain ⟨p1,p2⟩:=p
    rw [List.map_cons]
    split <;> (cases p1 with
     | list l=>
       cases l with
       | nil=>cases h
       | cons _ _=>rfl
     | _=>rfl)
 ·cases kds with
  | nil=>rfl
  | cons p r=>
    obtain ⟨p1,p2⟩:=p
    cases p1 with
    | list l=>
      cases l with
      | nil=>cases h
      | cons _ _=>rfl
    | _=>rfl
theorem zef {gd gk ge:DS->Option D} {δ:DS} {kds:List (D×D)} {c:Int×Int} {z:D} (h1:gd δ=some (.dict kds)) (h2:gk δ=some (dC c)) (h3:ge δ=some z) (hf:fnD kds=false:=by first | assumption | exact Dt.fn (by assumption)):gDgetD gd gk ge δ=some ((dLook kds [.inl c.1,.inl c.2]).getD z):=by
 unfold gDgetD; rw [h1,h2,h3]
 show (if fnD kds=true then none else _)=_
 rw [hf]; rfl
theorem zlx {gd gk:DS->Option D} {δ:DS} {kds:List (D×D)} {c:Int×Int} (h1:gd δ=some (.dict kds)) (h2:gk δ=some (dC c)) (hf:fnD kds=false:=by first | assumption | exact Dt.fn (by assumption)):gDget gd gk δ=dLook kds [.inl c.1,.inl c.2]:=by
 unfold gDget; rw [h1,h2]
 show (if fnD kds=true then none else _)=_
 rw [hf]; rfl
theorem zk0 {i:Nat} {gk ge:DS->Option D} {δ:DS} {kds:List (D×D)} {c:Int×Int} {d:D} (h1:gVar i δ=some (.dict kds)) (h2:gk δ=some (dC c)) (h3:ge δ=some d) (h4:kds.length < 100000):gSetK i gk ge δ=some (.nx (δ.set i (some (.dict (dPutD kds [.inl c.1,.inl c.2] d))))):=by
 unfold gSetK; rw [h1,h2,h3]
 show (if kds.length < 100000 then _ else _)=_
 rw [if_pos h4]
theorem znk {b g x y:Int}:(([.inl b,.inl g]:List Key)=[.inl x,.inl y])↔b=x /\ g=y:=by simp
theorem for2 {t:D->DS->Option DS} {b:DS->Option Res} {d1 d2:D} {δ:DS} (δ1 δ2 δ3 δ4:DS) (h1:t d1 δ=some δ1) (h2:b δ1=some (.nx δ2)) (h3:t d2 δ2=some δ3) (h4:b δ3=some (.nx δ4)):forD t b [d1,d2] δ=some (.nx δ4):=by
 simp only [forD,h1,h2,h3,h4,Option.bind_some]
theorem Dt.put {kds:List (D×D)} {F:WF} (h:Dt kds F) (x y v:Int):Dt (dPutD kds [.inl x,.inl y] (.int v)) (fun b g=>if b=x /\ g=y then v else F b g):=by
 refine ⟨zoT h.fn,fun b g=>?_⟩
 show _=PyData.int (if b=x /\ g=y then v else F b g)
 rw [zk9]
 by_cases e:b=x /\ g=y
 ·rw [if_pos (znk.mpr e),if_pos e]; rfl
 ·rw [if_neg (fun z=>e (znk.mp z)),if_neg e]; exact h b g
end MyLaw
namespace MyLaw
open PySem L2 Q1
theorem znE (q:Fr2):dEq (dF q) (.tuple [.int 0,.int 1])=some (.bool (decide (q=Qz))):=zqY q Qz
theorem zgI (l:List Fr2):za6 [dP l]=some ((trim l).map dF):=by
 rw [zlB]
 refine zW ?_
 refine zG [some (dP l),some (.list (l.map dF))] (by unfold dP; simp only [gSetN,gB1N,gConsA,gVar,List.getElem?_cons_zero,Option.join_some,gNilA,Option.bind_some,dListN,List.set_cons_succ,List.set_cons_zero]) ?_
 refine zeH (fun k δ=>∃ m:List Fr2,δ=[some (dP l),some (.list (m.map dF))] /\ trim m=trim l /\ m.length=k) (fun δ=>δ=[some (dP l),some (.list ((trim l).map dF))]) l.length ?_ ?_ ?_
 ·exact ⟨l,rfl,rfl,rfl⟩
 ·rintro k δ ⟨m,rfl,ht,rfl⟩
  rcases zi9 m with rfl | ⟨l',q,rfl⟩
  ·exact .inl ⟨by simp only [gAnd,gB,g2,gB1,gConsA,gVar,List.map_nil,List.getElem?_cons_succ,List.getElem?_cons_zero,Option.join_some,gNilA,Option.bind_some,zcM,List.length_nil,gC,zjc,g1,dNeg,zkn,decide_eq_true_eq]; first | done | rfl,by rw [<- ht]; rfl⟩
  ·have hl:atI ((l' ++ [q]).map dF) (-1)=some (dF q):=atIlast (by simp)
   have hpos:(0:Int) < (((l' ++ [q]).map dF).length:Nat):=by rw [List.length_map,List.length_append,List.length_singleton]; omega
   by_cases hq:q=Qz
   ·refine .inr ⟨?_,[some (dP l),some (.list (l'.map dF))],l'.length,?_,by simp,l',rfl,by rw [<- ht,hq,zpV],rfl⟩
    ·simp only [gAnd,gB,g2,gB1,gConsA,gVar,List.getElem?_cons_succ,List.getElem?_cons_zero,Option.join_some,gNilA,Option.bind_some,zcM,gC,zjc,g1,dNeg,zkn,decide_eq_true_eq]
     rw [if_pos hpos,hl,Option.bind_some,znE,hq]
     rfl
    ·simp only [gPop,gVar,List.getElem?_cons_succ,List.getElem?_cons_zero,Option.join_some,List.set_cons_succ,List.set_cons_zero,Option.bind_some]
     rw [if_neg (by simp)]
     simp
   ·refine .inl ⟨?_,by rw [<- ht,zpo l' hq]⟩
    simp only [gAnd,gB,g2,gB1,gConsA,gVar,List.getElem?_cons_succ,List.getElem?_cons_zero,Option.join_some,gNilA,Option.bind_some,zcM,gC,zjc,g1,dNeg,zkn,decide_eq_true_eq]
    rw [if_pos hpos,hl,Option.bind_some,znE,decide_eq_false hq]
    rfl
 ·rintro δ' rfl
  exact ret (.list ((trim l).map dF)) (by simp only [gVar,List.getElem?_cons_succ,List.getElem?_cons_zero,Option.join_some]) (.mk rfl rfl)
end MyLaw
namespace MyLaw
open PySem L2 Q1
theorem zkX {i:Nat} {g:DS->Option (List D)} {δ:DS} {ds zs:List D} (h1:gVar i δ=some (.list ds)) (h2:g δ=some zs) (h3:ds.length + zs.length<=100000):gExt i g δ=some (.nx (δ.set i (some (.list (ds ++ zs))))):=by
 unfold gExt
 rw [h1,h2]
 show (if ds.length + zs.length<=100000 then _ else _)=_
 rw [if_pos h3]
theorem znV (p:List (List Int)):enumD (p.map dR)=p.zipIdx.map fun x=>.tuple [.int (x.2:Nat),dR x.1]:=by
 unfold enumD
 rw [List.zipIdx_map,List.map_map]
 rfl
theorem zjE {p:List (List Int)} (hl:p.length<=24) (h25:∀ r∈p,r.length<=25):zbH [dPl p]=some ((cnts 0 p).map dC):=by
 rw [zjn]
 refine zW ?_
 refine zG [some (dPl p),some (.list []),none,none] rfl ?_
 refine zdN (fun x:List Int×Nat=>PyData.tuple [.int (x.2:Nat),dR x.1]) p.zipIdx (fun i δ=>∃ a b,δ=[some (dPl p),some (.list ((cnts 0 (p.take i)).map dC)),a,b]) ?_ ⟨none,none,rfl⟩ ?_ ?_
 ·show some (enumD (p.map dR))=_
  rw [znV]
 ·rintro i ⟨r,n⟩ δ hi ⟨a,b,rfl⟩
  rw [List.getElem?_zipIdx] at hi
  cases er:p[i]? with
  | none=>rw [er] at hi; cases hi
  | some r'=>
    rw [er] at hi
    simp only [Option.map_some,Nat.zero_add,Option.some.injEq,Prod.mk.injEq] at hi
    obtain ⟨rfl,rfl⟩:=hi
    have hil:=(List.getElem?_eq_some_iff.mp er).1
    have hr:=h25 r' (List.mem_of_getElem? er)
    have ht:p.take (i + 1)=p.take i ++ [r']:=by
     rw [List.take_add_one,er]; rfl
    have hln:(p.take i).length=i:=by rw [List.length_take]; omega
    have hc0:=zfP (p.take i) 0 fun s hs=>h25 s (List.mem_of_mem_take hs)
    refine ⟨_,[some (dPl p),some (.list ((cnts 0 (p.take (i + 1))).map dC)),some (.int (i:Nat)),some (dR r')],rfl,?_,_,_,rfl⟩
    have hc:gComp (gItems (gVar 3)) [2] (gTupD (gConsA (gVar 0) (gConsA (g2 dSub (gVar 1) (gVar 0)) gNilA))) [some (dPl p),some (.list ((cnts 0 (p.take i)).map dC)),some (.int (i:Nat)),some (dR r')]=some ((r'.map fun b=>(b,(i:Int) - b)).map dC):=
     zc9 PyData.int dC (fun b=>(b,(i:Int) - b)) r' rfl (by omega) fun x _=>rfl
    refine (zkX rfl hc (by simp only [List.length_map]; omega)).trans ?_
    rw [ht,zdy,hln,Nat.zero_add,List.map_append]
    rfl
 ·rintro δ' ⟨a,b,rfl⟩
  refine ret (.list ((cnts 0 p).map dC)) ?_ (.mk rfl rfl)
  rw [List.length_zipIdx,List.take_length]
  rfl
theorem zlk {a b:Str} (ha:PyData.strOk a=true) (hb:PyData.strOk b=true) {c:Bool} (hc:(a == b)=c):dEq (.str a) (.str b)=some (.bool c):=by
 unfold dEq
 simp [SeqAt.shaped,PyData.canLay0,PyData.depth,PyData.eqv,ha,hb,hc]
theorem zly (c:Int×Int):zbK [dC c,.str "b"]=some (dC (c.1 + 1,c.2)):=by
 rw [zlu]
 exact zW (zdT true (zaI (b:=true) (zj rfl rfl (zlk (by decide +kernel) (by decide +kernel) (by decide +kernel)))) (fun _=>zda (dC (c.1 + 1,c.2)) rfl (.mk rfl rfl)) fun z=>nomatch z)
theorem zks (c:Int×Int):zbK [dC c,.str "g"]=some (dC (c.1,c.2 + 1)):=by
 rw [zlu]
 exact zW (zlQ (zaI (b:=false) (zj rfl rfl (zlk (by decide +kernel) (by decide +kernel) (by decide +kernel)))) (ret (dC (c.1,c.2 + 1)) rfl (.mk rfl rfl)))
theorem zdj {p:List (List Int)} (hl:p.length<=24) (h25:∀ r∈p,r.length<=25) (c:Int×Int):∃ kds,zS [dPl p,dC c]=some (.dict kds) /\ Dt kds ((cnts 0 p).foldl stepF (beg0 c)):=by
 have hcl:=zfP p 0 h25
 have main:Gets (zS [dPl p,dC c]) fun d=>∃ kds,d=.dict kds /\ Dt kds ((cnts 0 p).foldl stepF (beg0 c)):=by
  rw [zhr]
  refine zG [some (dPl p),some (dC c),some (.dict [(dC c,.int 1)]),none,none,none] rfl ?_
  refine zdN dC (cnts 0 p) (fun i δ=>∃ kds a b e,δ=[some (dPl p),some (dC c),some (.dict kds),a,b,e] /\ Dt kds (((cnts 0 p).take i).foldl stepF (beg0 c)) /\ kds.length<=1 + 2 * i) ?_ ⟨_,_,_,_,rfl,?_,by simp⟩ ?_ ?_
  ·have ec:gLst (gCallN zbH 1 (gConsA (gVar 0) gNilA)) [some (dPl p),some (dC c),some (.dict [(dC c,.int 1)]),none,none,none]=some (.list ((cnts 0 p).map dC)):=zA (zP (zb rfl rfl) rfl (zjE hl h25))
   unfold gItems
   rw [ec]
   rfl
  ·refine ⟨rfl,fun b g=>?_⟩
   have:dPutD [] [.inl c.1,.inl c.2] (.int 1)=[(dC c,.int 1)]:=rfl
   rw [<- this]
   exact (Dt.put (kds:=[]) (F:=fun _ _=>0) ⟨rfl,fun b g=>rfl⟩ c.1 c.2 1) b g
  ·rintro i k δ hi ⟨kds,a,b,e,rfl,hd,hlen⟩
   have hil:=(List.getElem?_eq_some_iff.mp hi).1
   obtain ⟨F,hF⟩:∃ F,F=((cnts 0 p).take i).foldl stepF (beg0 c):=⟨_,rfl⟩
   rw [<- hF] at hd
   have hnext:((cnts 0 p).take (i + 1)).foldl stepF (beg0 c)=stepF F k:=by
    rw [List.take_add_one,hi,List.foldl_append,<- hF]; rfl
   obtain ⟨k1,hk1⟩:∃ k1,k1=dPutD kds [.inl (k.1 + 1),.inl k.2] (.int (F (k.1 + 1) k.2 + F k.1 k.2)):=⟨_,rfl⟩
   have hd1:=hd.put (k.1 + 1) k.2 (F (k.1 + 1) k.2 + F k.1 k.2)
   rw [<- hk1] at hd1
   have hd2:=hd1.put k.1 (k.2 + 1) (F k.1 (k.2 + 1) + F k.1 k.2)
   have l1:k1.length<=kds.length + 1:=by rw [hk1]; exact zgP _ _ _
   have l2:=zgP k1 [.inl k.1,.inl (k.2 + 1)] (.int (F k.1 (k.2 + 1) + F k.1 k.2))
   refine ⟨_,[some (dPl p),some (dC c),some (.dict (dPutD k1 [.inl k.1,.inl (k.2 + 1)] (.int (F k.1 (k.2 + 1) + F k.1 k.2)))),some (dC k),some (.int (F k.1 k.2)),some (dC (k.1,k.2 + 1))],rfl,?_,_,_,_,_,rfl,?_,by omega⟩
   ·refine zaq [some (dPl p),some (dC c),some (.dict kds),some (dC k),some (.int (F k.1 k.2)),e] (zJ ((zef rfl rfl rfl).trans (congrArg some (hd k.1 k.2)))) ?_
    unfold gFor
    have hit:gItems (gTupD (gConsA (gCall zbK 2 (gConsA (gVar 3) (gConsA (gC (.str "b")) gNilA))) (gConsA (gCall zbK 2 (gConsA (gVar 3) (gConsA (gC (.str "g")) gNilA))) gNilA))) [some (dPl p),some (dC c),some (.dict kds),some (dC k),some (.int (F k.1 k.2)),e]=some [dC (k.1 + 1,k.2),dC (k.1,k.2 + 1)]:=by
     have e1:gCall zbK 2 (gConsA (gVar 3) (gConsA (gC (.str "b")) gNilA)) [some (dPl p),some (dC c),some (.dict kds),some (dC k),some (.int (F k.1 k.2)),e]=some (dC (k.1 + 1,k.2)):=zn (zb rfl (zb rfl rfl)) rfl (zly k)
     have e2:gCall zbK 2 (gConsA (gVar 3) (gConsA (gC (.str "g")) gNilA)) [some (dPl p),some (dC c),some (.dict kds),some (dC k),some (.int (F k.1 k.2)),e]=some (dC (k.1,k.2 + 1)):=zn (zb rfl (zb rfl rfl)) rfl (zks k)
     unfold gItems gTupD
     rw [zb e1 (zb e2 rfl)]
     rfl
    rw [hit,Option.bind_some]
    refine for2 [some (dPl p),some (dC c),some (.dict kds),some (dC k),some (.int (F k.1 k.2)),some (dC (k.1 + 1,k.2))] [some (dPl p),some (dC c),some (.dict k1),some (dC k),some (.int (F k.1 k.2)),some (dC (k.1 + 1,k.2))] [some (dPl p),some (dC c),some (.dict k1),some (dC k),some (.int (F k.1 k.2)),some (dC (k.1,k.2 + 1))] _ rfl ?_ rfl ?_
    ·refine (zk0 (c:=(k.1 + 1,k.2)) rfl rfl (zj ((zef (c:=(k.1 + 1,k.2)) rfl rfl rfl).trans (congrArg some (hd (k.1 + 1) k.2))) rfl rfl) (by omega)).trans ?_
     rw [hk1]; rfl
    ·have h5:(dLook k1 [.inl k.1,.inl (k.2 + 1)]).getD (.int 0)=.int (F k.1 (k.2 + 1)):=by
      have:=hd1 k.1 (k.2 + 1)
      rw [this]
      show PyData.int (if k.1=k.1 + 1 /\ k.2 + 1=k.2 then _ else _)=_
      rw [if_neg (by omega)]
     exact zk0 (c:=(k.1,k.2 + 1)) rfl rfl (zj ((zef (c:=(k.1,k.2 + 1)) rfl rfl rfl).trans (congrArg some h5)) rfl rfl) (by omega)
   ·rw [hnext]
    refine ⟨hd2.fn,fun x y=>?_⟩
    rw [hd2 x y]
    congr 1
    show (if x=k.1 /\ y=k.2 + 1 then _ else if x=k.1 + 1 /\ y=k.2 then _ else F x y)=F x y + _ + _
    by_cases c1:x=k.1 /\ y=k.2 + 1
    ·rw [if_pos c1,if_pos c1,if_neg (by omega),c1.1,c1.2]; omega
    ·rw [if_neg c1,if_neg c1]
     by_cases c2:x=k.1 + 1 /\ y=k.2
     ·rw [if_pos c2,if_pos c2,c2.1,c2.2]; omega
     ·rw [if_neg c2,if_neg c2]; omega
  ·rintro δ' ⟨kds,a,b,e,rfl,hd,_⟩
   rw [List.take_length] at hd
   exact ret (.dict kds) rfl (.mk rfl ⟨kds,rfl,hd⟩)
 obtain ⟨_,e,kds,rfl,hd⟩:=main
 exact ⟨kds,e,hd⟩
theorem zg5 {p:List (List Int)} (hl:p.length<=24) (h25:∀ r∈p,r.length<=25) (c:Int×Int):zap [dPl p,dC c]=some (.int ((cnts 0 p).foldl stepF (beg0 (0,0)) c.1 c.2)):=by
 rw [zl7]
 obtain ⟨kds,e,hd⟩:=zdj hl h25 (0,0)
 exact zW (ret _ ((zef (c:=c) (zn (zb rfl (zb rfl rfl)) rfl e) rfl rfl).trans (congrArg some (hd c.1 c.2))) (.mk rfl rfl))
noncomputable def A0:Int->Int:=fun b=>if b=0 then 1 else 0
theorem zmV {p:List (List Int)} (h:Pl p) {x y:Int} {k:Nat} (e:x + y=(k:Int)):(cnts 0 p).foldl stepF (beg0 (0,0)) x y=WW A0 p k x:=by
 refine (zio p 0 A0 (beg0 (0,0)) (zhE h).1 ?_ ?_ x y).2 k (by push_cast; omega)
 ·intro x y q
  unfold beg0 A0
  by_cases c:x=0
  ·rw [if_pos ⟨c,by push_cast at q; show y=0; omega⟩,if_pos c]
  ·rw [if_neg (fun z=>c z.1),if_neg c]
 ·intro x y q
  unfold beg0
  rw [if_neg]
  rintro ⟨z1,z2⟩
  have z1':x=0:=z1
  have z2':y=0:=z2
  push_cast at q
  omega
end MyLaw
namespace MyLaw
open PySem L2 Q1
theorem znr {α β:Type} (enc:α->D) (enc':β->D) (h:α->β) (P:α->Bool) {f:D->Option (Option D)}:∀ l:List α,(∀ a∈l,f (enc a)=some (if P a=true then some (enc' (h a)) else none))->fltD f (l.map enc)=some (((l.filter P).map h).map enc')
 | [],_=>rfl
 | a :: l,q=>by
   have ih:=znr enc enc' h P l fun b hb=>q b (List.mem_cons_of_mem _ hb)
   rw [List.map_cons,fltD,q a List.mem_cons_self,Option.bind_some,ih,Option.bind_some,List.filter_cons]
   cases P a <;> rfl
theorem ziR {α β:Type} (enc:α->D) (enc':β->D) (h:α->β) (P:α->Bool) {gi:DS->Option (List D)} {ix:List Nat} {gc:DS->Option Bool} {ge:DS->Option D} {δ:DS} (l:List α) (hi:gi δ=some (l.map enc)) (hl:l.length<=100000)
  (hc:∀ a∈l,gc (some (enc a) :: captD ix δ)=some (P a)) (he:∀ a∈l,P a=true->ge (some (enc a) :: captD ix δ)=some (enc' (h a))):gCompL gi 1 ix (gName' 0) gc ge δ=some (((l.filter P).map h).map enc'):=by
 unfold gCompL
 rw [hi,Option.bind_some,if_pos (by rw [List.length_map]; exact hl)]
 refine znr enc enc' h P l fun a ha=>?_
 show (Option.bind (some (some (enc a) :: captD ix δ)) _)=_
 rw [Option.bind_some,hc a ha,Option.bind_some]
 cases q:P a with
 | true=>rw [if_pos rfl,if_pos rfl,he a ha q]; rfl
 | false=>rfl
theorem zhQ {f f':D->D->Option D} {a b c:DS->Option D} {δ:DS} {x y w:D} {u v:Bool} (h1:a δ=some x) (h2:b δ=some y) (h3:f x y=some (.bool u)) (h4:c δ=some w) (h5:f' y w=some (.bool v)):gChain f f' a b c δ=some (.bool (u && v)):=by
 unfold gChain
 rw [h1,h2]
 simp only [Option.bind_some,h3]
 cases u with
 | true=>simp only [h4,Option.bind_some,h5,Bool.true_and]
 | false=>rfl
theorem zmo {r:List Int} (h:r.length < 32):zcp [dR r]=some ((led r).map .int):=by
 rw [zmv]
 exact zW (ret (.list ((led r).map .int)) (zA (zlD (a:=gLst (gB1N dListN (gConsA (gVar 0) gNilA))) (b:=gVar 0) (r:=r) rfl (.inr rfl) h)) (.mk rfl rfl))
noncomputable def goB (p:List (List Int)) (c:Int×Int):Bool:=(decide (0<=c.1 + c.2) && decide (c.1 + c.2 < (p.length:Int))) && decide (c.1∈p.getD (c.1 + c.2).toNat [])
theorem zkc (p:List (List Int)) (c:Int×Int):zch [dPl p,dC c]=some (.bool (goB p c)):=by
 rw [zlv]
 refine zW ?_
 refine zG [some (dPl p),some (dC c),some (.int (c.1 + c.2))] rfl ?_
 refine ret (.bool (goB p c)) ?_ (.mk rfl rfl)
 refine zpJ (x:=decide (0<=c.1 + c.2) && decide (c.1 + c.2 < (p.length:Int))) ?_ fun h=>?_
 ·have e2:dLt (.int (c.1 + c.2)) (.int (((p.map dR).length:Nat):Int))=some (.bool (decide (c.1 + c.2 < (p.length:Int)))):=by
   rw [List.length_map]; rfl
  exact zhQ rfl rfl rfl rfl e2
 ·rw [Bool.and_eq_true,decide_eq_true_eq,decide_eq_true_eq] at h
  exact zj rfl (zj rfl rfl (zoz h.1 h.2)) znl
theorem zcP:∀ (p:List (List Int)) (n:Nat),(∀ r∈p,r.length<=50)->(cnts n p).length<=50 * p.length
 | [],_,_=>by simp [cnts]
 | r :: p,n,h=>by
   have h1:=zcP p (n + 1) fun s hs=>h s (List.mem_cons_of_mem _ hs)
   have h2:=h r List.mem_cons_self
   rw [cnts,List.length_append,List.length_cons,rowC,List.length_map]
   omega
theorem zms (p:List (List Int)):enumS (p.map dR)=(p.zipIdx 1).map fun x=>.tuple [.int (x.2:Nat),dR x.1]:=by
 unfold enumS
 rw [List.zipIdx_map,List.map_map]
 rfl
theorem zkl (x:Int):∀ l:List Int,(ins x l).length<=l.length + 1
 | []=>by simp [ins]
 | y :: l=>by
   have:=zkl x l
   rw [ins]
   split
   ·simp
   ·split
    ·simp
    ·simp only [List.length_cons]; omega
theorem znS:∀ l:List Int,(ss l).length<=l.length
 | []=>by simp [ss]
 | x :: l=>by
   have h1:=znS l
   have h2:=zkl x (ss l)
   rw [ss,List.length_cons]; omega
theorem zdi {r:List Int}:(led r).length<=2 * r.length:=by
 have h:((led r):List Int).length<=(r ++ r.map (· + 1)).length:=znS _
 rw [List.length_append,List.length_map] at h
 omega
theorem zkL {p:List (List Int)} (hl:p.length<=24) (h25:∀ r∈p,r.length<=25):zb0 [dPl p]=some (((0,0) :: cnts 1 (p.map led)).map dC):=by
 rw [zj4]
 refine zW ?_
 refine zG [some (dPl p),some (.list [dC (0,0)]),none,none] rfl ?_
 refine zdN (fun x:List Int×Nat=>PyData.tuple [.int (x.2:Nat),dR x.1]) (p.zipIdx 1) (fun i δ=>∃ a b,δ=[some (dPl p),some (.list (((0,0) :: cnts 1 ((p.take i).map led)).map dC)),a,b]) ?_ ⟨none,none,rfl⟩ ?_ ?_
 ·show some (enumS (p.map dR))=_
  rw [zms]
 ·rintro i ⟨r,n⟩ δ hi ⟨a,b,rfl⟩
  rw [List.getElem?_zipIdx] at hi
  cases er:p[i]? with
  | none=>rw [er] at hi; cases hi
  | some r'=>
    rw [er] at hi
    simp only [Option.map_some,Option.some.injEq,Prod.mk.injEq] at hi
    obtain ⟨rfl,rfl⟩:=hi
    have hil:=(List.getElem?_eq_some_iff.mp er).1
    have hr:=h25 r' (List.mem_of_getElem? er)
    have ht:p.take (i + 1)=p.take i ++ [r']:=by
     rw [List.take_add_one,er]; rfl
    have hln:(p.take i).length=i:=by rw [List.length_take]; omega
    have hll:(led r').length<=50:=by have:=zdi (r:=r'); omega
    have hcl:(cnts 1 ((p.take i).map led)).length<=1200:=by
     have:=zcP ((p.take i).map led) 1 (fun s hs=>by
      obtain ⟨t,ht,rfl⟩:=List.mem_map.mp hs
      have:=zdi (r:=t)
      have:=h25 t (List.mem_of_mem_take ht)
      omega)
     rw [List.length_map,hln] at this
     omega
    refine ⟨_,[some (dPl p),some (.list (((0,0) :: cnts 1 ((p.take (i + 1)).map led)).map dC)),some (.int ((1 + i:Nat):Int)),some (dR r')],rfl,?_,_,_,rfl⟩
    have hc:gComp (gItems (gLst (gCallN zcp 1 (gConsA (gVar 3) gNilA)))) [2] (gTupD (gConsA (gVar 0) (gConsA (g2 dSub (gVar 1) (gVar 0)) gNilA))) [some (dPl p),some (.list (((0,0) :: cnts 1 ((p.take i).map led)).map dC)),some (.int ((1 + i:Nat):Int)),some (dR r')]=some (((led r').map fun b=>(b,((1 + i:Nat):Int) - b)).map dC):=by
     refine zc9 PyData.int dC (fun b=>(b,((1 + i:Nat):Int) - b)) (led r') ?_ (by omega) fun x _=>rfl
     have ec:gLst (gCallN zcp 1 (gConsA (gVar 3) gNilA)) [some (dPl p),some (.list (((0,0) :: cnts 1 ((p.take i).map led)).map dC)),some (.int ((1 + i:Nat):Int)),some (dR r')]=some (.list ((led r').map .int)):=zA (zP (zb rfl rfl) rfl (zmo (by omega)))
     unfold gItems
     rw [ec]
     rfl
    refine (zkX rfl hc (by simp only [List.length_map,List.length_cons]; omega)).trans ?_
    have key:cnts 1 ((p.take (i + 1)).map led)=cnts 1 ((p.take i).map led) ++ rowC (1 + i) (led r'):=by
     rw [ht,List.map_append,show List.map led [r']=[led r'] from rfl,zdy,List.length_map,hln]
    simp only [key,List.map_cons,List.map_append,List.cons_append]
    rfl
 ·rintro δ' ⟨a,b,rfl⟩
  refine ret (.list (((0,0) :: cnts 1 (p.map led)).map dC)) ?_ (.mk rfl rfl)
  rw [List.length_zipIdx,List.take_length]
  rfl
noncomputable def endsL (p:List (List Int)):List (Int×Int):=((0,0) :: cnts 1 (p.map led)).filter fun c=> !goB p c
theorem zfj {p:List (List Int)} (hl:p.length<=24) (h25:∀ r∈p,r.length<=25):zaN [dPl p]=some ((endsL p).map dC):=by
 rw [zqF]
 have hcl:(cnts 1 (p.map led)).length<=1200:=by
  have:=zcP (p.map led) 1 (fun s hs=>by
   obtain ⟨t,ht,rfl⟩:=List.mem_map.mp hs
   have:=zdi (r:=t)
   have:=h25 t ht
   omega)
  rw [List.length_map] at this
  omega
 have hc:gCompL (gItems (gLst (gCallN zb0 1 (gConsA (gVar 0) gNilA)))) 1 [0] (gName' 0) (gNot (gTru (gCall zch 2 (gConsA (gVar 1) (gConsA (gVar 0) gNilA))))) (gVar 0) [some (dPl p)]=some (((((0,0) :: cnts 1 (p.map led)).filter fun c=> !goB p c).map id).map dC):=by
  refine ziR dC dC id (fun c=> !goB p c) ((0,0) :: cnts 1 (p.map led)) ?_ (by simp only [List.length_cons]; omega) (fun c _=>?_) fun c _ _=>rfl
  ·have ec:gLst (gCallN zb0 1 (gConsA (gVar 0) gNilA)) [some (dPl p)]=some (.list (((0,0) :: cnts 1 (p.map led)).map dC)):=zA (zP (zb rfl rfl) rfl (zkL hl h25))
   unfold gItems
   rw [ec]
   rfl
  ·exact zer (zlp (zn (zb rfl (zb rfl rfl)) rfl (zkc p c)))
 rw [List.map_id] at hc
 exact zW (ret (.list ((endsL p).map dC)) (zA hc) (.mk rfl rfl))
theorem zqD (c:Int×Int):SeqAt.shaped (dC c)=true:=by
 have e:dC c=.tuple (([c.1,c.2]:List Int).map .int):=rfl
 rw [e]
 unfold SeqAt.shaped
 simp [PyData.canLay0,PyData.canLayAll0,PyData.depth,PyData.depthAll]
theorem zpC (a c:Int×Int):PyData.eqv (dC a) (dC c)=decide (a=c):=by
 obtain ⟨a1,a2⟩:=a
 obtain ⟨c1,c2⟩:=c
 simp [dC,PyData.eqv,PyData.eqvAll]
 rfl
theorem zkI (neg:Bool) (c:Int×Int) (es:List (Int×Int)):dInT neg (dC c) (.list (es.map dC))=some (.bool (decide (c∈es) != neg)):=by
 unfold dInT
 simp only
 rw [if_pos (by rw [zqD,Bool.true_and,List.all_map]; simp [Function.comp,zqD])]
 congr 3
 rw [List.any_map,Bool.eq_iff_iff]
 simp [Function.comp,zpC]
theorem zb8 {p:List (List Int)} (hl:p.length<=24) (h25:∀ r∈p,r.length<=25) (cs:List (Int×Int)) (h:∀ c∈cs,c∈endsL p):zaz [dPl p,.list (cs.map dC)]=some .none:=by
 rw [zhg]
 refine zW ?_
 refine zG [some (dPl p),some (.list (cs.map dC)),some (.list ((endsL p).map dC)),none] (zJ (zA (zP (zb rfl rfl) rfl (zfj hl h25)))) ?_
 obtain ⟨δ',e,a,rfl⟩:=zev (t:=gName' 3) (b:=gIf (gB (g2 (dInT true) (gVar 3) (gVar 2))) (fun _=>none) gSkip) dC (fun _ δ=>∃ a,δ=[some (dPl p),some (.list (cs.map dC)),some (.list ((endsL p).map dC)),a]) cs (δ:=[some (dPl p),some (.list (cs.map dC)),some (.list ((endsL p).map dC)),none]) ⟨none,rfl⟩ (by
  rintro i c δ hi ⟨a,rfl⟩
  refine ⟨_,[some (dPl p),some (.list (cs.map dC)),some (.list ((endsL p).map dC)),some (dC c)],rfl,ze2 (zaI (zj rfl rfl ((zkI true c (endsL p)).trans ?_))),_,rfl⟩
  rw [decide_eq_true (h c (List.mem_of_getElem? hi))]
  rfl)
 refine .mk (d:=.none) ?_ rfl
 show ((gFor _ _ _ _:Option Res)).bind gOut=_
 unfold gFor
 rw [show gItems (gVar 1) [some (dPl p),some (.list (cs.map dC)),some (.list ((endsL p).map dC)),none]=some (cs.map dC) from rfl,Option.bind_some,e]
 rfl
noncomputable def goB' (p:List (List Int)) (c:Int×Int):Bool:=(decide (0<=c.1 + c.2) && decide (c.1 + c.2 < (p.length:Int))) && decide (c.1∈p.getD (c.1 + c.2).toNat [])
theorem zoa (p:List (List Int)) (n:Nat) (b:Int):goB' p (b,(n:Int) - b)=decide (b∈p.getD n []):=by
 unfold goB'
 simp only
 rw [show b + ((n:Int) - b)=(n:Int) by omega,Int.toNat_natCast,decide_eq_true (show (0:Int)<=(n:Int) by omega),Bool.true_and]
 rcases Nat.lt_or_ge n p.length with q | q
 ·rw [decide_eq_true (show (n:Int) < (p.length:Int) by omega),Bool.true_and]
 ·rw [decide_eq_false (show ¬ (n:Int) < (p.length:Int) by omega),Bool.false_and,List.getD_eq_getElem?_getD,List.getElem?_eq_none q]
  simp
theorem zeI {L:Nat} (h:L<=24): -100000<=((L:Nat):Int) + 1 /\ ((L:Nat):Int) + 1<=100000 /\ ((((L:Nat):Int) + 1) - 1).toNat=L:=⟨by omega,by omega,by omega⟩
theorem zow {N:Int} {i L:Nat} (h:N=1 + (i:Int)) (hi:i < L):0<=N /\ N.toNat=i + 1 /\ 0<=N - 1 /\ N - 1 < (L:Int) /\ (N - 1).toNat=i /\ (¬ N < (L:Int)->L<=i + 1):=⟨by omega,by omega,by omega,by omega,by omega,fun _=>by omega⟩
theorem zo4 {a b i L:Nat} (h1:a<=50 * i) (h2:b<=a) (hi:i < L) (hL:L<=24):b<=1200:=by omega
theorem zhs {l r f:Nat} (h:l<=2 * r) (hr:r<=25):l<=50 /\ r < 32 /\ (f<=l->∀ a,a<=1200->a + f<=100000):=⟨by omega,by omega,fun _ _ _=>by omega⟩
theorem zjs {p:List (List Int)} (hl:p.length<=24) (h25:∀ r∈p,r.length<=25):zaj [dPl p]=some (((cnts 1 (p.map led)).filter fun c=> !goB' p c).map dC):=by
 rw [zjp]
 refine zW ?_
 refine zG [some (dPl p),some (.list []),none,none,none] rfl ?_
 refine zcT 1 p.length (fun i δ=>∃ a b c,δ=[some (dPl p),some (.list (((cnts 1 ((p.take i).map led)).filter fun c=> !goB' p c).map dC)),a,b,c]) ?_ ⟨none,none,none,rfl⟩ ?_ ?_
 ·have e:gConsA (gC (.int (1))) (gConsA (g2 dAddV (gB1 dLen (gConsA (gVar 0) gNilA)) (gC (.int (1)))) gNilA) [some (dPl p),some (.list []),none,none,none]=some [.int 1,.int (((p.length:Nat):Int) + 1)]:=by
   show some [PyData.int 1,PyData.int ((((p.map dR).length:Nat):Int) + 1)]=_
   rw [List.length_map]
  refine (zkV e (by decide) (by decide) (zeI hl).1 (zeI hl).2.1).trans ?_
  rw [(zeI hl).2.2]
 ·rintro i δ hi ⟨a,b,c,rfl⟩
  obtain ⟨r,er⟩:∃ r,p[i]?=some r:=⟨_,List.getElem?_eq_getElem hi⟩
  have hr:=h25 r (List.mem_of_getElem? er)
  have ht:p.take (i + 1)=p.take i ++ [r]:=by rw [List.take_add_one,er]; rfl
  have hln:(p.take i).length=i:=by rw [List.length_take]; exact Nat.min_eq_left (Nat.le_of_lt hi)
  obtain ⟨acc,hacc⟩:∃ acc,acc=((cnts 1 ((p.take i).map led)).filter fun c=> !goB' p c).map dC:=⟨_,rfl⟩
  rw [<- hacc]
  have haccl:acc.length<=1200:=by
   have h1:=zcP ((p.take i).map led) 1 (fun s hs=>by
    obtain ⟨t,ht,rfl⟩:=List.mem_map.mp hs
    exact (zhs (f:=0) (zdi (r:=t)) (h25 t (List.mem_of_mem_take ht))).1)
   rw [List.length_map,hln] at h1
   have h2:=List.length_filter_le (fun c=> !goB' p c) (cnts 1 ((p.take i).map led))
   rw [hacc,List.length_map]
   exact zo4 h1 h2 hi hl
  obtain ⟨hll,h32,_⟩:=zhs (f:=0) (zdi (r:=r)) hr
  obtain ⟨N,hN⟩:∃ N:Int,N=1 + (i:Int):=⟨_,rfl⟩
  obtain ⟨m1,m2,m3,m4,m5,m6⟩:=zow hN hi
  rw [<- hN]
  obtain ⟨on,hon⟩:∃ on,on=p.getD (i + 1) []:=⟨_,rfl⟩
  have st:gIf (gB (g2 dLt (gVar 2) (gB1 dLen (gConsA (gVar 0) gNilA)))) (gSet 3 (g2 dIx (gVar 0) (gVar 2))) gSkip [some (dPl p),some (.list acc),some (.int N),some (.tuple []),c]=some (.nx [some (dPl p),some (.list acc),some (.int N),some (dR on),c]):=by
   have hc:gB (g2 dLt (gVar 2) (gB1 dLen (gConsA (gVar 0) gNilA))) [some (dPl p),some (.list acc),some (.int N),some (.tuple []),c]=some (decide (N < (p.length:Int))):=by
    refine zaI ?_
    show some (PyData.bool (decide (N < (((p.map dR).length:Nat):Int))))=_
    rw [List.length_map]
   by_cases q:N < (p.length:Int)
   ·refine zdx true (hc.trans (congrArg some (decide_eq_true q))) (fun _=>?_) fun z=>nomatch z
    refine (zJ (zj rfl rfl (zoz m1 q))).trans ?_
    rw [m2,<- hon]
    rfl
   ·refine zdx false (hc.trans (congrArg some (decide_eq_false q))) (fun z=>nomatch z) fun _=>?_
    have:on=[]:=by rw [hon,List.getD_eq_getElem?_getD,List.getElem?_eq_none (m6 q)]; rfl
    rw [this]; rfl
  have ix:g2 dIx (gVar 0) (g2 dSub (gVar 2) (gC (.int (1)))) [some (dPl p),some (.list acc),some (.int N),some (dR on),c]=some (dR r):=by
   refine (zj rfl rfl (zoz (p:=p) (i:=N - 1) m3 m4)).trans ?_
   rw [m5,List.getD_eq_getElem?_getD,er]
   rfl
  have ss4:=zlD (a:=gLst (gB1N dListN (gConsA (g2 dIx (gVar 0) (g2 dSub (gVar 2) (gC (.int (1))))) gNilA))) (b:=g2 dIx (gVar 0) (g2 dSub (gVar 2) (gC (.int (1))))) (δ:=[some (dPl p),some (.list acc),some (.int N),some (dR on),c]) (r:=r) (by
   unfold gLst gB1N
   rw [zb ix rfl]
   rfl) (.inr ix) h32
  refine ⟨_,[some (dPl p),some (.list (((cnts 1 ((p.take (i + 1)).map led)).filter fun c=> !goB' p c).map dC)),some (.int N),some (dR on),some (.list ((led r).map .int))],rfl,?_,_,_,_,rfl⟩
  refine zaq [some (dPl p),some (.list acc),some (.int N),some (.tuple []),c] rfl ?_
  refine zaq _ st ?_
  refine zaq [some (dPl p),some (.list acc),some (.int N),some (dR on),some (.list ((led r).map .int))] (zJ (zA ss4)) ?_
  have hcp:gCompL (gItems (gVar 4)) 1 [2,3] (gName' 0) (gB (g2 dNotIn (gVar 0) (gVar 2))) (gTupD (gConsA (gVar 0) (gConsA (g2 dSub (gVar 1) (gVar 0)) gNilA))) [some (dPl p),some (.list acc),some (.int N),some (dR on),some (.list ((led r).map .int))]=some ((((led r).filter fun b=> !decide (b∈on)).map fun b=>(b,N - b)).map dC):=by
   refine ziR PyData.int dC (fun b=>(b,N - b)) (fun b=> !decide (b∈on)) (led r) rfl (Nat.le_trans hll (by decide)) (fun b _=>?_) fun b _ _=>rfl
   refine zaI (zj rfl rfl ?_)
   unfold dNotIn
   rw [znl]
   rfl
  refine (zkX rfl hcp (by simp only [List.length_map]; exact (zhs (zdi (r:=r)) hr).2.2 (List.length_filter_le (fun b=> !decide (b∈on)) (led r)) _ haccl)).trans ?_
  have key:((cnts 1 ((p.take (i + 1)).map led)).filter fun c=> !goB' p c).map dC=acc ++ (((led r).filter fun b=> !decide (b∈on)).map fun b=>(b,N - b)).map dC:=by
   rw [ht,List.map_append,show List.map led [r]=[led r] from rfl,zdy,List.length_map,hln,List.filter_append,List.map_append,<- hacc]
   congr 2
   unfold rowC
   rw [List.filter_map]
   have ef:((fun c:Int×Int=> !goB' p c) ∘ fun b:Int=>(b,((1 + i:Nat):Int) - b))=fun b=> !decide (b∈on):=by
    funext b
    show (!goB' p (b,((1 + i:Nat):Int) - b))=_
    rw [zoa,hon,Nat.add_comm 1 i]
   rw [ef]
   congr 1
   funext b
   rw [hN]
   push_cast
   rfl
  rw [key]
  rfl
 ·rintro δ' ⟨a,b,c,rfl⟩
  refine ret (.list (((cnts 1 (p.map led)).filter fun c=> !goB' p c).map dC)) ?_ (.mk rfl rfl)
  rw [List.take_length]
  rfl
end MyLaw
namespace MyLaw
open PySem L2 Q1
theorem zdf {g:DS->Option D} {δ:DS} {d:D} (h:g δ=some d):gDrop g δ=some (.nx δ):=by unfold gDrop; rw [h]; rfl
theorem zf4 {a b:DS->Option D} {δ:DS} {x y:D} (h1:a δ=some x) (h2:b δ=some y):gTupD (gConsA a (gConsA b gNilA)) δ=some (.tuple [x,y]):=by
 unfold gTupD; rw [zb h1 (zb h2 rfl)]; rfl
structure Sz (m:Nat) (q:Fr2):Prop where
 low:Low q
 top:bt q.1<=m
 bot:bt q.2<=m
theorem Sz.ne {m:Nat} {q:Fr2} (h:Sz m q):q.2≠0:=by have:=h.low.1; omega
theorem zno (a b:Int) (hb:bt b<=4000):zQ [.int a,.int b]=some (.int (Int.gcd a b:Nat)):=by
 rw [zdv]
 refine zW ?_
 refine zG [some (.int (a.natAbs:Nat)),some (.int b),none,none] (by simp only [gSet,gB1,gConsA,gVar,List.getElem?_cons_zero,Option.join_some,gNilA,Option.bind_some,dAbs,List.set_cons_zero]; rw [zlV]) ?_
 refine zG [some (.int (a.natAbs:Nat)),some (.int (b.natAbs:Nat)),none,none] (by simp only [gSet,gB1,gConsA,gVar,List.getElem?_cons_succ,List.getElem?_cons_zero,Option.join_some,gNilA,Option.bind_some,dAbs,List.set_cons_succ,List.set_cons_zero]; rw [zlV]) ?_
 refine zeH (fun m δ=>∃ (x:Nat) (r p:Option D),δ=[some (.int (x:Nat)),some (.int (m:Nat)),r,p] /\ bt (m:Int)<=4000 /\ Nat.gcd x m=Int.gcd a b) (fun δ=>∃ (x:Nat) (r p:Option D),δ=[some (.int (x:Nat)),some (.int 0),r,p] /\ x=Int.gcd a b) b.natAbs ?_ ?_ ?_
 ·exact ⟨_,none,none,rfl,zf9 (by simp) hb,rfl⟩
 ·rintro m δ ⟨x,r,p,rfl,hbm,hg⟩
  by_cases hm:m=0
  ·subst hm
   exact .inl ⟨by simp only [gB,g2,gVar,List.getElem?_cons_succ,List.getElem?_cons_zero,Option.join_some,gC,Option.bind_some,ziN]; rfl,x,r,p,rfl,by simpa using hg⟩
  ·have hlt:x % m < m:=Nat.mod_lt _ (by omega)
   have e:((x:Int) % (m:Int))=((x % m:Nat):Int):=by omega
   have hb':bt ((x % m:Nat):Int)<=4000:=zf9 (by simp; omega) hbm
   refine .inr ⟨by simp only [gB,g2,gVar,List.getElem?_cons_succ,List.getElem?_cons_zero,Option.join_some,gC,Option.bind_some,ziN]; simp; omega,[some (.int m),some (.int ((x % m:Nat):Int)),some (.int ((x % m:Nat):Int)),p],x % m,?_,hlt,m,_,_,rfl,hb',?_⟩
   ·simp only [gSeq,gSet,g2,gVar,List.getElem?_cons_zero,Option.join_some,List.getElem?_cons_succ,Option.bind_some,List.set_cons_succ,List.set_cons_zero,gIf,gB,g1,gC,gCall,gConsA,gNilA,gSkip]
    rw [zbw (by omega),e]
    simp only [Option.bind_some,List.getElem?_cons_succ,List.getElem?_cons_zero,Option.join_some,List.set_cons_zero,List.set_cons_succ,dBits,zjc,List.length_cons,List.length_nil,Nat.reduceAdd,if_true,decide_eq_true_eq]
    have hb'':Builtin.Int.intBits ((x % m:Nat):Int)<=4000:=hb'
    rw [if_neg (by omega)]
   ·rw [<- hg,Nat.gcd_comm x m,Nat.gcd_rec m x,Nat.gcd_comm]
 ·rintro δ' ⟨x,r,p,rfl,h2⟩
  exact ret _ (by simp only [gVar,List.getElem?_cons_zero,Option.join_some]; rw [h2]) (.mk rfl rfl)
theorem zeD (t b:Int) (hb0:b≠0) (hb:bt b<=4000):zbg [.int t,.int b]=some (dF (qmk t b)):=by
 rw [zql]
 refine zW ?_
 have hg:=zno t b hb
 have hd0:dv t b≠0:=zqS hb0
 have hgb:bt (dv t b)<=9000:=by
  refine zbt (zf9 ?_ hb) (by decide)
  have:(Int.gcd t b) ∣ b.natAbs:=Nat.gcd_dvd_right _ _
  have:=Nat.le_of_dvd (by omega) this
  unfold dv; split <;> omega
 refine zlQ (by simp only [gB,g2,gVar,List.getElem?_cons_succ,List.getElem?_cons_zero,Option.join_some,gC,Option.bind_some,zcX]; rw [decide_eq_false hb0]) ?_
 refine zG [some (.int t),some (.int b),some (.int (Int.gcd t b:Nat))] (by simp only [gSet,gCall,gConsA,gVar,List.getElem?_cons_zero,Option.join_some,List.getElem?_cons_succ,gNilA,Option.bind_some,List.length_cons,List.length_nil,Nat.reduceAdd,if_true,List.set_cons_succ,List.set_cons_zero]; rw [hg]; rfl) ?_
 refine zG [some (.int t),some (.int b),some (.int (dv t b))] ?_ ?_
 ·simp only [gIf,gB,g2,gVar,List.getElem?_cons_succ,List.getElem?_cons_zero,Option.join_some,gC,Option.bind_some,zjc,gSet,g1,dNeg,List.set_cons_succ,List.set_cons_zero,gSkip,decide_eq_true_eq]
  unfold dv
  split <;> rfl
 ·refine ret (dF (qmk t b)) ?_ (.mk rfl rfl)
  simp only [gTupD,gConsA,g2,gVar,List.getElem?_cons_zero,Option.join_some,List.getElem?_cons_succ,Option.bind_some,gNilA]
  rw [znO hd0 hgb,znO hd0 hgb]
  rfl
theorem znb (a b:Fr2) (ha:Sz 4000 a) (hb:Sz 4000 b):zeV [dF a,dF b]=some (dF (qmul a b)):=by
 rw [zn5]
 refine zW ?_
 have f1:=zeD a.1 b.2 hb.ne hb.bot
 have f2:=zeD b.1 a.2 ha.ne ha.bot
 have o1:=zlY (t:=a.1) hb.ne
 have o2:=zlY (t:=b.1) ha.ne
 have hq:=(zmu ha.low.2 hb.low.2 o1 o2).qm (Int.mul_ne_zero ha.ne hb.ne)
 have c1:=zf9 (o1.top_le hb.ne) ha.top
 have c2:=zf9 (o1.bot_le hb.ne) hb.bot
 have c3:=zf9 (o2.top_le ha.ne) hb.top
 have c4:=zf9 (o2.bot_le ha.ne) ha.bot
 refine zG [some (dF a),some (dF b),some (dF (qmk a.1 b.2)),none] (by simp only [gSet,gCall,gConsA,g2,gVar,List.getElem?_cons_zero,Option.join_some,gC,Option.bind_some,zgH,List.getElem?_cons_succ,zhc,gNilA,List.length_cons,List.length_nil,Nat.reduceAdd,if_true,List.set_cons_succ,List.set_cons_zero]; rw [f1]; rfl) ?_
 refine zG [some (dF a),some (dF b),some (dF (qmk a.1 b.2)),some (dF (qmk b.1 a.2))] (by simp only [gSet,gCall,gConsA,g2,gVar,List.getElem?_cons_succ,List.getElem?_cons_zero,Option.join_some,gC,Option.bind_some,zgH,zhc,gNilA,List.length_cons,List.length_nil,Nat.reduceAdd,if_true,List.set_cons_succ,List.set_cons_zero]; rw [f2]; rfl) ?_
 refine ret (dF (qmul a b)) ?_ (.mk rfl rfl)
 unfold qmul
 rw [<- hq]
 simp only [gTupD,gConsA,g2,gVar,List.getElem?_cons_succ,List.getElem?_cons_zero,Option.join_some,gC,Option.bind_some,zgH,zhc,gNilA]
 rw [zcf (mulOk c1 c3),zcf (mulOk c2 c4)]
 rfl
end MyLaw
namespace MyLaw
open PySem L2 Q1
noncomputable def tp (n k:Nat):Int:=(-1) ^ k * (K06.ch n k:Int)
theorem zdQ (n:Nat):tp n 0=1:=by unfold tp; rw [K06.ze0]; rfl
theorem zl2 {n k:Nat} (h:k<=n): -tp n k * ((n:Int) - k)=((k:Int) + 1) * tp n (k + 1):=by
 have:=K06.zeP n k h
 have e:((k:Int) + 1) * (K06.ch n (k + 1):Int)=((n:Int) - k) * (K06.ch n k:Int):=by
  have q:((n - k:Nat):Int)=(n:Int) - k:=by omega
  rw [<- q]
  exact_mod_cast this
 unfold tp
 rw [Int.pow_succ]
 grind
theorem zoF {n k:Nat} (h:k<=n): -tp n k * ((n:Int) - k) / ((k:Int) + 1)=tp n (k + 1):=by
 rw [zl2 h,Int.mul_ediv_cancel_left _ (by omega)]
theorem znF (n k:Nat):tp (n + 1) (k + 1)=tp n (k + 1) - tp n k:=by
 unfold tp
 rw [show K06.ch (n + 1) (k + 1)=K06.ch n k + K06.ch n (k + 1) from rfl,Int.pow_succ]
 push_cast
 grind
noncomputable def rowT (n:Nat):List Int:=(List.range (n + 1)).map (tp n)
theorem zne (n:Nat):(rowT n).length=n + 1:=by simp [rowT]
theorem zh2:∀ (n k:Nat),(tp n k).natAbs<=2 ^ n
 | n,0=>by rw [zdQ]; exact Nat.one_le_two_pow
 | 0,k + 1=>by unfold tp; rw [K06.zjv 0 (k + 1) (by omega)]; simp
 | n + 1,k + 1=>by
   have h1:=zh2 n (k + 1)
   have h2:=zh2 n k
   rw [znF,Nat.pow_succ]
   omega
noncomputable def cntP (b g:Nat):List Int:=List.replicate b 0 ++ rowT g
theorem zfK (b g:Nat):(cntP b g).length=b + g + 1:=by unfold cntP; rw [List.length_append,List.length_replicate,zne]; omega
theorem zj6 {b g:Nat} {t:Int} (h:t∈cntP b g):bt t<=g + 1:=by
 unfold cntP rowT at h
 rcases List.mem_append.mp h with z | z
 ·rw [(List.mem_replicate.mp z).2]; exact zcF (show (0:Int).natAbs < 2 ^ (g + 1) from Nat.two_pow_pos _)
 ·obtain ⟨k,_,rfl⟩:=List.mem_map.mp z
  exact zcF (Nat.lt_of_le_of_lt (zh2 g k) (Nat.pow_lt_pow_right (by decide) (by omega)))
theorem zeE (b g:Nat):(List.replicate b ((0,1):Fr2) ++ (List.range (g + 1)).map fun k=>(tp g k,1))=(cntP b g).map fun t=>((t,1):Fr2):=by
 unfold cntP rowT
 rw [List.map_append,List.map_replicate,List.map_map]
 rfl
theorem zfo (b g:Nat) (hb:b<=100) (hg:g<=100):zak [.int (b:Nat),.int (g:Nat)]=some ((List.replicate b ((0,1):Fr2) ++ (List.range (g + 1)).map fun k=>(tp g k,1)).map dF):=by
 rw [zjl]
 refine zW ?_
 refine zG [some (.int (b:Nat)),some (.int (g:Nat)),some (.list ((List.replicate b ((0,1):Fr2)).map dF)),none,none] (zlU ?_) ?_
 ·refine (zlb (ds:=[dF (0,1)]) (n:=b) rfl rfl (by omega) (by simp; omega)).trans ?_
  rw [List.map_replicate]
  congr 1
  simp
 refine zG [some (.int (b:Nat)),some (.int (g:Nat)),some (.list ((List.replicate b ((0,1):Fr2)).map dF)),some (.int 1),none] rfl ?_
 refine zcT 0 (g + 1) (fun i δ=>∃ x,δ=[some (.int (b:Nat)),some (.int (g:Nat)),some (.list ((List.replicate b ((0,1):Fr2) ++ (List.range i).map fun k=>(tp g k,1)).map dF)),some (.int (tp g i)),x]) (zbZ ?_ (by omega)) ⟨none,?_⟩ ?_ ?_
 ·show some [PyData.int (((g:Nat):Int) + 1)]=_
  push_cast
  rfl
 ·rw [zdQ]; simp
 ·rintro i δ hi ⟨x,rfl⟩
  refine ⟨_,[some (.int (b:Nat)),some (.int (g:Nat)),some (.list ((List.replicate b ((0,1):Fr2) ++ (List.range (i + 1)).map fun k=>(tp g k,1)).map dF)),some (.int (tp g (i + 1))),some (.int (0 + (i:Int)))],rfl,?_,_,rfl⟩
  refine zaq [some (.int (b:Nat)),some (.int (g:Nat)),some (.list ((List.replicate b ((0,1):Fr2) ++ (List.range (i + 1)).map fun k=>(tp g k,1)).map dF)),some (.int (tp g i)),some (.int (0 + (i:Int)))] ((zir (d:=dF (tp g i,1)) rfl rfl (by simp; omega)).trans ?_) ?_
  ·have key:(List.replicate b ((0,1):Fr2) ++ (List.range (i + 1)).map fun k=>(tp g k,1)).map dF=(List.replicate b ((0,1):Fr2) ++ (List.range i).map fun k=>(tp g k,1)).map dF ++ [dF (tp g i,1)]:=by
    rw [List.range_succ,List.map_append (l₁:=List.range i),<- List.append_assoc,List.map_append (l₂:=List.map _ [i])]
    rfl
   rw [key]
   rfl
  ·refine (zJ (zj (zj rfl rfl (zcf (zbv (i:= -tp g i) (j:=(g:Int) - (0 + (i:Int))) (by omega) (by omega)))) rfl (zh8 (by omega) ?_))).trans ?_
   ·exact zbt (zcF (m:=20) (by omega)) (by decide)
   ·rw [show (0 + (i:Int))=(i:Int) by omega,zoF (by omega)]
    rfl
 ·rintro δ' ⟨x,rfl⟩
  exact ret (.list ((List.replicate b ((0,1):Fr2) ++ (List.range (g + 1)).map fun k=>(tp g k,1)).map dF)) rfl (.mk rfl rfl)
end MyLaw
namespace MyLaw
open PySem L2 Q1
theorem znB {gi:DS->Option (List D)} {t:D->DS->Option DS} {b:DS->Option Res} {δ:DS} {ds:List D} {r:Option Res} (h1:gi δ=some ds) (h2:forD t b ds δ=r):gFor gi t b δ=r:=by unfold gFor; rw [h1]; exact h2
theorem zqQ {A:Int->Int} {r:List Int} (h:∀ x,0<=A x) (b:Int):0<=lv A r b:=by
 have h1:=h (b - 1)
 have h2:=h b
 unfold lv
 split <;> split <;> omega
theorem zkA {p:List (List Int)} {A:Int->Int} (h:∀ x,0<=A x):∀ (k:Nat) (b:Int),0<=WW A p k b
 | 0,b=>by rw [WW_0]; exact h b
 | k + 1,b=>by rw [zej]; exact zqQ (zkA h k) b
theorem zm6 (x:Int):0<=A0 x:=by unfold A0; split <;> omega
theorem znP {A:Int->Int} {r:List Int} (h:∀ x,0<=A x) (hr:∀ x∈r,0 < A x) {b:Int} (hb:b∈led r):0 < lv A r b:=by
 have h1:=h (b - 1)
 have h2:=h b
 unfold lv
 rcases zc6.mp hb with z | z
 ·have:=hr b z
  rw [if_pos z]; split <;> omega
 ·have:=hr _ z
  rw [if_pos z]; split <;> omega
theorem zlR:∀ {q:List (List Int)} {r:List Int},Chn r q->∀ k x,x∈(r :: q).getD (k + 1) []->x∈led ((r :: q).getD k [])
 | [],_,_,k,x,hx=>by simp at hx
 | s :: q,r,hc,0,x,hx=>hc.1.2.2 x (by simpa using hx)
 | s :: q,r,hc,k + 1,x,hx=>by
   have:=zlR hc.2 k x (by simpa using hx)
   simpa using this
theorem zpT {p:List (List Int)} (h:Pl p) (k:Nat) (x:Int) (hx:x∈p.getD (k + 1) []):x∈led (p.getD k []):=by
 obtain ⟨q,rfl,hc⟩:=h.ex
 exact zlR hc k x hx
theorem znL {p:List (List Int)} (h:Pl p):∀ (k:Nat) (x:Int),x∈p.getD k []->0 < WW A0 p k x
 | 0,x,hx=>by
   obtain ⟨q,rfl,hc⟩:=h.ex
   rw [WW_0]
   have:x=0:=by simpa using hx
   subst this; decide
 | k + 1,x,hx=>by
   rw [zej]
   exact znP (zkA zm6 k) (znL h k) (zpT h k x hx)
theorem zpU {p:List (List Int)} (h:Pl p) (k:Nat) (x:Int) (hx:x∈led (p.getD k [])):0 < WW A0 p (k + 1) x:=by
 rw [zej]
 exact znP (zkA zm6 k) (znL h k) hx
theorem Dt.get {kds:List (D×D)} {F:WF} (h:Dt kds F) {b g:Int} (hp:F b g≠0):dLook kds [.inl b,.inl g]=some (.int (F b g)):=by
 have:=h b g
 cases e:dLook kds [.inl b,.inl g] with
 | none=>rw [e] at this; exact absurd (by injection this with z; exact z.symm) hp
 | some d=>rw [e] at this; rw [show d=.int (F b g) from this]
noncomputable def waysF (p:List (List Int)):WF:=(cnts 0 p).foldl stepF (beg0 (0,0))
theorem ziJ {p:List (List Int)} (h:Pl p) {x y:Int} {k:Nat} (e:x + y=(k:Int)):waysF p x y=WW A0 p k x:=zmV h e
end MyLaw
namespace MyLaw
open PySem L2 Q1
theorem zfH {c:Int×Int}:∀ {q:List (List Int)} {n:Nat},c∈cnts n q->∃ k,k < q.length /\ c.1∈q.getD k [] /\ c.1 + c.2=((n + k:Nat):Int)
 | [],n,h=>by simp [cnts] at h
 | r :: q,n,h=>by
   rw [cnts,List.mem_append] at h
   rcases h with h | h
   ·obtain ⟨b,hb,rfl⟩:=List.mem_map.mp h
    exact ⟨0,by simp,by simpa using hb,by show b + ((n:Int) - b)=_; omega⟩
   ·obtain ⟨k,h1,h2,h3⟩:=zfH h
    exact ⟨k + 1,by simpa using h1,by simpa using h2,by rw [h3]; omega⟩
theorem zoc {p:List (List Int)}:∀ (k:Nat) (b:Int),WW A0 p k b<=2 ^ k
 | 0,b=>by rw [WW_0]; unfold A0; split <;> decide
 | k + 1,b=>by
   have h1:=zoc (p:=p) k (b - 1)
   have h2:=zoc (p:=p) k b
   have h3:=zkA (p:=p) zm6 k (b - 1)
   have h4:=zkA (p:=p) zm6 k b
   rw [zej,Int.pow_succ]
   unfold lv
   split <;> split <;> omega
structure EndOk (p:List (List Int)) (c:Int×Int) (b g:Nat):Prop where
 eq:c=((b:Int),(g:Int))
 dr:b + g<=p.length
 d1:1<=b + g
 led:(b:Int)∈led (p.getD (b + g - 1) [])
 ww:waysF p c.1 c.2=WW A0 p (b + g) b
 pos:0 < waysF p c.1 c.2
 le:waysF p c.1 c.2<=2 ^ (b + g)
theorem zoX {x y:Int} {k:Nat} (h:(0<=x /\ x<=(k:Int)) \/ (0<=x - 1 /\ x - 1<=(k:Int))) (e:x + y=((1 + k:Nat):Int)):∃ b g:Nat,x=(b:Int) /\ y=(g:Int) /\ b + g=k + 1 /\ x + y=((b + g:Nat):Int):=⟨x.toNat,y.toNat,by omega,by omega,by omega,by omega⟩
theorem zpZ {p:List (List Int)} (hp:Pl p) {c:Int×Int} (h:c∈cnts 1 (p.map led)):∃ b g:Nat,EndOk p c b g:=by
 obtain ⟨k,h1,h2,h3⟩:=zfH h
 rw [List.length_map] at h1
 have e:(p.map led).getD k []=led (p.getD k []):=by
  rw [List.getD_eq_getElem?_getD,List.getD_eq_getElem?_getD,List.getElem?_map,List.getElem?_eq_getElem h1]; rfl
 rw [e] at h2
 have hr:=(zhE hp).2 k
 obtain ⟨b,g,hb',hg',hn,hs⟩:=zoX ((zc6.mp h2).imp (hr _) (hr _)) h3
 have hw:waysF p c.1 c.2=WW A0 p (b + g) b:=by rw [ziJ hp (k:=b + g) hs,hb']
 refine ⟨b,g,Prod.ext hb' hg',hn ▸ h1,hn ▸ Nat.succ_le_succ (Nat.zero_le k),?_,hw,?_,?_⟩
 ·rw [hn,Nat.add_sub_cancel,<- hb']; exact h2
 ·rw [hw,hn,<- hb']; exact zpU hp k _ h2
 ·rw [hw]; exact zoc _ _
theorem zpr (p:List (List Int)) (n:Nat) (b:Int):goB p (b,(n:Int) - b)=decide (b∈p.getD n []):=by
 unfold goB
 simp only
 rw [show b + ((n:Int) - b)=(n:Int) by omega,Int.toNat_natCast,decide_eq_true (show (0:Int)<=(n:Int) by omega),Bool.true_and]
 rcases Nat.lt_or_ge n p.length with q | q
 ·rw [decide_eq_true (show (n:Int) < (p.length:Int) by omega),Bool.true_and]
 ·rw [decide_eq_false (show ¬ (n:Int) < (p.length:Int) by omega),Bool.false_and,List.getD_eq_getElem?_getD,List.getElem?_eq_none q]
  simp
theorem zib {p:List (List Int)} (hp:Pl p):endsL p=(cnts 1 (p.map led)).filter fun c=> !goB p c:=by
 obtain ⟨q,rfl,_⟩:=hp.ex
 unfold endsL
 rw [List.filter_cons_of_neg]
 have:goB ([0] :: q) (0,0)=true:=by unfold goB; simp
 rw [this]; decide
theorem ziV {p:List (List Int)} (hp:Pl p) {c:Int×Int} (h:c∈endsL p):∃ b g:Nat,EndOk p c b g:=by
 rw [zib hp] at h
 exact zpZ hp (List.mem_filter.mp h).1
theorem zdn {p:List (List Int)} (hl:p.length<=24) (h25:∀ r∈p,r.length<=25):(endsL p).length<=1201:=by
 unfold endsL
 refine Nat.le_trans (List.length_filter_le _ _) ?_
 have:=zcP (p.map led) 1 (fun s hs=>by
  obtain ⟨t,ht,rfl⟩:=List.mem_map.mp hs
  have:=zdi (r:=t)
  have:=h25 t ht
  omega)
 rw [List.length_map] at this
 rw [List.length_cons]; omega
theorem zbO {p:List (List Int)} (hp:Pl p) (hl:p.length<=24) (h25:∀ r∈p,r.length<=25):zaj [dPl p]=some ((endsL p).map dC):=by
 rw [zjs hl h25,zib hp]; rfl
end MyLaw
namespace MyLaw
open PySem L2 Q1
theorem zkw (l:List Fr2) (q:Fr2) (hl:∀ a∈l,Sz 4000 a) (hq:Sz 4000 q) (hn:l.length<=100):zcq [dP l,dF q]=some ((pscale l q).map dF):=by
 rw [zmd]
 refine zW (ret (.list ((pscale l q).map dF)) ?_ (.mk rfl rfl))
 refine zA (zP (zb (zA (zc9 dF dF (fun a=>qmul a q) l rfl (by omega) (fun a ha=>?_))) rfl) rfl (zgI _))
 exact zn (zb rfl (zb rfl rfl)) rfl (znb a q (hl a ha) hq)
theorem zps {p:List (List Int)} (hp:Pl p) (hl:p.length<=24) (h25:∀ r∈p,r.length<=25) {c:Int×Int} (hc:c∈endsL p) {b g:Nat} (he:EndOk p c b g):zk3 [dPl p,dC c]=some ((pTop ((cntP b g).map fun t=>waysF p c.1 c.2 * t) 1).map dF):=by
 rw [zns]
 have hcb:c.1=(b:Int):=by rw [he.eq]
 have hcg:c.2=(g:Int):=by rw [he.eq]
 have hbg:=he.dr
 have vw:zap [dPl p,dC c]=some (.int (waysF p c.1 c.2)):=zg5 hl h25 c
 have hw:bt (waysF p c.1 c.2)<=25:=by
  have h1:=he.pos
  have h2:=he.le
  have:(2:Int) ^ (b + g)<=2 ^ 24:=by exact_mod_cast Nat.pow_le_pow_right (by decide) (by omega)
  exact zcF (by omega)
 obtain ⟨w,hwe⟩:∃ w,w=waysF p c.1 c.2:=⟨_,rfl⟩
 rw [<- hwe] at vw hw ⊢
 have so:∀ {t:Int} {m:Nat},bt t<=m->1<=m->Sz m (t,1):=fun h hm=>⟨⟨by show (1:Int)<=1; decide,by show Int.gcd _ 1=1; simp⟩,h,show bt (1:Int)<=_ from zbt (zcF (m:=1) (by decide)) hm⟩
 have vo:=zfo b g (by omega) (by omega)
 rw [zeE] at vo
 have vs:=zkw ((cntP b g).map fun t=>((t,1):Fr2)) (w,1) (fun a ha=>by
  obtain ⟨t,ht,rfl⟩:=List.mem_map.mp ha
  exact so (zbt (zj6 ht) (by omega)) (by decide)) (so (zbt hw (by decide)) (by decide)) (by rw [List.length_map,zfK]; omega)
 have e:pscale ((cntP b g).map fun t=>((t,1):Fr2)) (w,1)=pTop ((cntP b g).map fun t=>w * t) 1:=by
  unfold pscale pTop
  rw [List.map_map,List.map_map]
  refine congrArg trim (List.map_congr_left fun t _=>?_)
  show qmk (t * w) (1 * 1)=qmk (w * t) 1
  rw [Int.mul_comm t w,Int.mul_one]
 rw [e] at vs
 refine zW ?_
 refine zG [some (dPl p),some (dC c)] ?_ (ret _ (zA (zP (zb (zA (zP (zb (zj rfl rfl (by show some (PyData.int c.1)=_; rw [hcb])) (zb (zj rfl rfl (by show some (PyData.int c.2)=_; rw [hcg])) rfl)) rfl vo)) (zb (zf4 (zn (zb rfl (zb rfl rfl)) rfl vw) rfl) rfl)) rfl vs)) (.mk rfl rfl))
 exact zdf (zn (zb rfl (zb (zA rfl) rfl)) rfl (zb8 hl h25 [c] (fun z hz=>by rw [List.mem_singleton.mp hz]; exact hc)))
end MyLaw
namespace MyLaw
open PySem L2 Q1
theorem zkN {p:List (List Int)} (hl:p.length<=24) {c:Int×Int} {b g:Nat} (he:EndOk p c b g):bt (waysF p c.1 c.2)<=25:=by
 have h1:=he.pos
 have h2:=he.le
 have h3:=he.dr
 have:(2:Int) ^ (b + g)<=2 ^ 24:=by exact_mod_cast Nat.pow_le_pow_right (by decide) (by omega)
 exact zcF (by omega)
end MyLaw
namespace MyLaw
open PySem L2 Q1
theorem zqP {n k:Nat} (h:k < n):ixN n (k:Int)=some k:=by
 unfold ixN
 rw [if_pos (by omega),if_pos (by omega)]
 simp
theorem zn1 {i:Nat} {f:Int->Int->Int} {gx ge:DS->Option D} {δ:DS} {n k:Nat} {T:Nat->Int} {y:Int} (h1:gVar i δ=some (.list ((tab n T).map .int))) (h2:gx δ=some (.int (k:Nat))) (h3:ge δ=some (.int y)) (hk:k < n):gAugIx i f gx ge δ=some (.nx (δ.set i (some (.list ((tab n fun j=>if k=j then f (T k) y else T j).map .int))))):=by
 unfold gAugIx
 rw [h1,h2,h3]
 show (if (0:Int)<=(k:Nat) then (ixN ((tab n T).map PyData.int).length (k:Nat)).bind _ else none)=_
 rw [if_pos (by omega),List.length_map,zlO,zqP hk,Option.bind_some,List.getElem?_map,zn8 hk,<- zn0,List.map_set]
 rfl
theorem zoP {g:DS->Option D} {δ:DS} {l r:List D} (h:g δ=some (.list l)) (hr:enumD l=r):gEnumerate g δ=some r:=by unfold gEnumerate; rw [h,<- hr]; rfl
theorem znD {ga gb:DS->Option D} {δ:DS} {xs ys:List D} (h1:ga δ=some (.list xs)) (h2:gb δ=some (.list ys)):gZip ga gb δ=some (zipD xs ys):=by unfold gZip; rw [h1,h2]; rfl
theorem zij {α β:Type} (e1:α->D) (e2:β->D):∀ (xs:List α) (ys:List β),zipD (xs.map e1) (ys.map e2)=(xs.zip ys).map fun x=>.tuple [e1 x.1,e2 x.2]
 | [],ys=>by simp [zipD]
 | xs,[]=>by simp [zipD]
 | x :: xs,y :: ys=>by
   have:=zij e1 e2 xs ys
   unfold zipD at this ⊢
   rw [List.map_cons,List.map_cons,List.zipWith_cons_cons,this]; rfl
theorem zm5 {α:Type} (enc:α->D) (xs:List α):enumD (xs.map enc)=xs.zipIdx.map fun x=>.tuple [.int (x.2:Nat),enc x.1]:=by
 unfold enumD
 rw [List.zipIdx_map,List.map_map]
 rfl
end MyLaw
namespace MyLaw
noncomputable def sm {α:Type} (f:α->Int) (l:List α):Int:=(l.map f).sum
theorem zgp {α:Type} (f:α->Int):sm f []=0:=rfl
theorem za7 {α:Type} (f:α->Int) (a:α) (l:List α):sm f (a :: l)=f a + sm f l:=by unfold sm; rw [List.map_cons,List.sum_cons]
theorem ziK {α:Type} (f:α->Int) (l m:List α):sm f (l ++ m)=sm f l + sm f m:=by unfold sm; rw [List.map_append,List.sum_append]
theorem zk7 {α β:Type} (f:β->Int) (g:α->β) (l:List α):sm f (l.map g)=sm (fun a=>f (g a)) l:=by unfold sm; rw [List.map_map]; rfl
theorem zcw {α:Type} {f g:α->Int} {l:List α} (h:∀ a∈l,f a=g a):sm f l=sm g l:=by unfold sm; rw [List.map_congr_left h]
theorem zgA {α:Type} (f g:α->Int):∀ l:List α,sm (fun a=>f a + g a) l=sm f l + sm g l
 | []=>rfl
 | a :: l=>by rw [za7,za7,za7,zgA f g l]; omega
theorem zpi {α:Type} {f:α->Int} {l:List α} (h:∀ a∈l,f a=0):sm f l=0:=by
 induction l with
 | nil=>rfl
 | cons a l ih=>rw [za7,h a List.mem_cons_self,ih fun b hb=>h b (List.mem_cons_of_mem _ hb)]; rfl
theorem zoS {α:Type} {f:α->Int} {l m:List α} (h:l.Perm m):sm f l=sm f m:=by
 induction h with
 | nil=>rfl
 | cons a _ ih=>rw [za7,za7,ih]
 | swap a b l=>rw [za7,za7,za7,za7]; omega
 | trans _ _ i j=>rw [i,j]
theorem zeU {α:Type} (f:α->Int) (P:α->Bool):∀ l:List α,sm f (l.filter P)=sm (fun a=>if P a=true then f a else 0) l
 | []=>rfl
 | a :: l=>by
   rw [List.filter_cons,za7,<- zeU f P l]
   cases P a with
   | true=>rw [if_pos rfl,if_pos rfl,za7]
   | false=>rw [if_neg (by decide),if_neg (by decide)]; omega
theorem zlI {f:Int->Int} {l s:List Int} (hl:l.Nodup) (hs:s.Nodup) (h:∀ x∈s,x∈l):sm (fun a=>if a∈s then f a else 0) l=sm f s:=by
 have pm:List.Perm (l.filter fun x=>decide (x∈s)) s:=(List.perm_ext_iff_of_nodup (hl.sublist List.filter_sublist) hs).mpr fun z=>by
  rw [List.mem_filter,decide_eq_true_eq]
  exact ⟨fun q=>q.2,fun q=>⟨h z q,q⟩⟩
 rw [<- zoS pm,zeU]
 exact zcw fun a _=>by simp
theorem zqX {A:Int->Int} {r:List Int} (hr:Rise r) (f:Int->Int):sm (fun b=>lv A r b * f b) (led r)=sm (fun b=>A b * (f (b + 1) + f b)) r:=by
 have nl:(led r).Nodup:=zeT zcH
 have nr:=zeT hr
 have e1:sm (fun b=>if b∈r then A b * f b else 0) (led r)=sm (fun b=>A b * f b) r:=zlI nl nr fun x hx=>zc6.mpr (.inl hx)
 have e2:sm (fun b=>if b∈r.map (· + 1) then A (b - 1) * f b else 0) (led r)=sm (fun b=>A b * f (b + 1)) r:=by
  rw [zlI (f:=fun b=>A (b - 1) * f b) nl (List.pairwise_map.mpr (nr.imp fun h e=>h (by omega))) (fun x hx=>by
   obtain ⟨y,hy,rfl⟩:=List.mem_map.mp hx
   exact zc6.mpr (.inr (by rw [show y + 1 - 1=y by omega]; exact hy))),zk7]
  exact zcw fun a _=>by rw [show a + 1 - 1=a by omega]
 have e3:sm (fun b=>A b * (f (b + 1) + f b)) r=sm (fun b=>A b * f (b + 1)) r + sm (fun b=>A b * f b) r:=by
  rw [<- zgA]
  exact zcw fun a _=>by rw [Int.mul_add]
 rw [e3,<- e1,<- e2,<- zgA]
 refine zcw fun b _=>?_
 have m:b∈r.map (· + 1)↔b - 1∈r:=by
  rw [List.mem_map]
  exact ⟨fun ⟨y,hy,e⟩=>by rw [show b - 1=y by omega]; exact hy,fun h=>⟨b - 1,h,by omega⟩⟩
 unfold lv
 simp only [m]
 split <;> split <;> simp [Int.add_mul]
noncomputable def dlt (φ:Int->Int->Int) (c:Int×Int):Int:=φ (c.1 + 1) c.2 + φ c.1 (c.2 + 1) - φ c.1 c.2
theorem ziv {p:List (List Int)} (φ:Int->Int->Int):∀ (q:List (List Int)) (r:List Int) (n:Nat) (A:Int->Int) (W:Int->Int->Int),(∀ j,p.getD (n + j) []=(r :: q).getD j [])->Chn r q->Rise r->
  (∀ (x y:Int) (j:Nat),x + y=(n:Int) + (j:Int)->W x y=WW A (r :: q) j x)->
  sm (fun c=>W c.1 c.2 * φ c.1 c.2) ((cnts (n + 1) ((r :: q).map led)).filter fun c=> !goB p c)=sm (fun b=>A b * φ b ((n:Int) - b)) r + sm (fun c=>W c.1 c.2 * dlt φ c) (cnts n (r :: q))
 | q,r,n,A,W,hg,hc,hr,hW=>by
   have nl:(led r).Nodup:=zeT zcH
   have e1:=hg 1
   have hrow:sm (fun c=>W c.1 c.2 * φ c.1 c.2) ((rowC (n + 1) (led r)).filter fun c=> !goB p c)=sm (fun b=>lv A r b * φ b ((n:Int) + 1 - b)) ((led r).filter fun b=> !decide (b∈p.getD (n + 1) [])):=by
    unfold rowC
    rw [List.filter_map,zk7]
    have ef:((fun c:Int×Int=> !goB p c) ∘ fun b:Int=>(b,((n + 1:Nat):Int) - b))=fun b=> !decide (b∈p.getD (n + 1) []):=by
     funext b
     show (!goB p (b,((n + 1:Nat):Int) - b))=_
     rw [zpr]
    rw [ef]
    refine zcw fun b _=>?_
    show W b (((n + 1:Nat):Int) - b) * φ b (((n + 1:Nat):Int) - b)=_
    rw [hW b (((n + 1:Nat):Int) - b) 1 (by push_cast; omega),show ((n + 1:Nat):Int) - b=(n:Int) + 1 - b by push_cast; rfl]
    show WW (lv A r) q 0 b * _=_
    rw [WW_0]
   have hlv:=zqX hr (A:=A) (fun b=>φ b ((n:Int) + 1 - b))
   have hsplit:∀ s:List Int,s.Nodup->(∀ x∈s,x∈led r)->sm (fun b=>lv A r b * φ b ((n:Int) + 1 - b)) ((led r).filter fun b=> !decide (b∈s)) + sm (fun b=>lv A r b * φ b ((n:Int) + 1 - b)) s=sm (fun b=>lv A r b * φ b ((n:Int) + 1 - b)) (led r):=by
    intro s hs hsub
    rw [zeU,<- zlI (f:=fun b=>lv A r b * φ b ((n:Int) + 1 - b)) nl hs hsub,<- zgA]
    refine zcw fun b _=>?_
    by_cases q:b∈s
    ·simp [q]
    ·simp [q]
   have hcur:sm (fun c=>W c.1 c.2 * dlt φ c) (rowC n r) + sm (fun b=>A b * φ b ((n:Int) - b)) r=sm (fun b=>A b * (φ (b + 1) ((n:Int) + 1 - (b + 1)) + φ b ((n:Int) + 1 - b))) r:=by
    unfold rowC
    rw [zk7,<- zgA]
    refine zcw fun b _=>?_
    show W b ((n:Int) - b) * dlt φ (b,(n:Int) - b) + _=_
    rw [hW b ((n:Int) - b) 0 (by push_cast; omega),WW_0]
    unfold dlt
    show A b * (φ (b + 1) ((n:Int) - b) + φ b ((n:Int) - b + 1) - φ b ((n:Int) - b)) + _=_
    rw [show (n:Int) + 1 - (b + 1)=(n:Int) - b by omega,show (n:Int) + 1 - b=(n:Int) - b + 1 by omega,<- Int.mul_add]
    congr 1
    omega
   rw [List.map_cons,cnts,List.filter_append,ziK,hrow,e1,cnts,ziK]
   cases q with
   | nil=>
     have:=hsplit [] (by simp) (by simp)
     simp only [List.map_nil,cnts,List.filter_nil,zgp]
     rw [zgp] at this
     rw [show ([r]:List (List Int)).getD 1 []=[] from rfl]
     omega
   | cons s q=>
     have hs:=hc.1
     have h2:=hsplit s (zeT hs.2.1) hs.2.2
     have ih:=ziv (p:=p) φ q s (n + 1) (lv A r) W (fun j=>by rw [show n + 1 + j=n + (j + 1) by omega,hg (j + 1)]; rfl) hc.2 hs.2.1 (fun x y j h=>by
      rw [hW x y (j + 1) (by push_cast at h ⊢; omega)]; rfl)
     rw [show (r :: s :: q).getD 1 []=s from rfl,ih]
     rw [show sm (fun b=>lv A r b * φ b (((n + 1:Nat):Int) - b)) s=sm (fun b=>lv A r b * φ b ((n:Int) + 1 - b)) s from by push_cast; rfl]
     omega
theorem zoA {p:List (List Int)} (hp:Pl p) (φ:Int->Int->Int):sm (fun c=>waysF p c.1 c.2 * φ c.1 c.2) (endsL p)=φ 0 0 + sm (fun c=>waysF p c.1 c.2 * dlt φ c) (cnts 0 p):=by
 rw [zib hp]
 have hw:∀ (x y:Int) (j:Nat),x + y=((0:Nat):Int) + (j:Int)->waysF p x y=WW A0 p j x:=fun x y j h=>ziJ hp (by omega)
 obtain ⟨q,rfl,hc⟩:=hp.ex
 have:=ziv (p:=[0] :: q) φ q [0] 0 A0 (waysF ([0] :: q)) (fun j=>by rw [Nat.zero_add]) hc (by unfold Rise; simp) hw
 rw [this]
 congr 1
 simp [sm,A0]
theorem zmr {p:List (List Int)} (hp:Pl p) {φ:Int->Int->Int} (h:∀ c∈cnts 0 p,dlt φ c=0):sm (fun c=>waysF p c.1 c.2 * φ c.1 c.2) (endsL p)=φ 0 0:=by
 rw [zoA hp,zpi fun c hc=>by rw [h c hc,Int.mul_zero]]; omega
end MyLaw
namespace MyLaw
noncomputable def co (b g k:Nat):Int:=if k < b then 0 else tp g (k - b)
theorem zid {n k:Nat} (h:n < k):tp n k=0:=by unfold tp; rw [K06.zjv n k h]; simp
theorem zqC (b g k:Nat):co (b + 1) g k + co b (g + 1) k=co b g k:=by
 unfold co
 by_cases h:k < b
 ·rw [if_pos (by omega),if_pos h,if_pos h]; rfl
 ·by_cases h2:k=b
  ·subst h2
   rw [if_pos (by omega),if_neg h,if_neg h,Nat.sub_self,zdQ,zdQ]; rfl
  ·obtain ⟨j,rfl⟩:∃ j,k=b + 1 + j:=⟨k - b - 1,by omega⟩
   rw [if_neg (by omega),if_neg h,if_neg h,show b + 1 + j - (b + 1)=j by omega,show b + 1 + j - b=j + 1 by omega,znF]
   omega
theorem zmt (b g k:Nat):(cntP b g).getD k 0=co b g k:=by
 unfold cntP co rowT
 rw [List.getD_eq_getElem?_getD]
 by_cases h:k < b
 ·rw [List.getElem?_append_left (by rw [List.length_replicate]; exact h),List.getElem?_replicate,if_pos h,if_pos h]; rfl
 ·rw [List.getElem?_append_right (by rw [List.length_replicate]; omega),List.length_replicate,if_neg h,List.getElem?_map]
  by_cases h2:k - b < g + 1
  ·rw [List.getElem?_range h2]; rfl
  ·rw [List.getElem?_eq_none (by rw [List.length_range]; omega),zid (by omega)]; rfl
noncomputable def coZ (k:Nat) (x y:Int):Int:=co x.toNat y.toNat k
theorem zol (k:Nat) {c:Int×Int} (h1:0<=c.1) (h2:0<=c.2):dlt (coZ k) c=0:=by
 obtain ⟨b,hb⟩:∃ b:Nat,c.1=(b:Int):=⟨c.1.toNat,by omega⟩
 obtain ⟨g,hg⟩:∃ g:Nat,c.2=(g:Int):=⟨c.2.toNat,by omega⟩
 unfold dlt coZ
 rw [hb,hg,show ((b:Int) + 1).toNat=b + 1 by omega,show ((g:Int) + 1).toNat=g + 1 by omega,Int.toNat_natCast,Int.toNat_natCast]
 have:=zqC b g k
 omega
theorem znz {p:List (List Int)} (hp:Pl p) {c:Int×Int} (h:c∈cnts 0 p):0<=c.1 /\ 0<=c.2:=by
 obtain ⟨k,h1,h2,h3⟩:=zfH h
 have:=(zhE hp).2 k _ h2
 omega
theorem zoN {p:List (List Int)} (hp:Pl p) (k:Nat):sm (fun c=>waysF p c.1 c.2 * coZ k c.1 c.2) (endsL p)=if k=0 then 1 else 0:=by
 rw [zmr hp fun c hc=>zol k (znz hp hc).1 (znz hp hc).2]
 unfold coZ co
 show (if k < 0 then 0 else tp 0 (k - 0))=_
 rw [if_neg (by omega)]
 cases k with
 | zero=>rw [if_pos rfl,zdQ]
 | succ k=>rw [if_neg (by omega),zid (by omega)]
end MyLaw
namespace MyLaw
open PySem L2 Q1
theorem zki {l:List Fr2} {N:Nat} (h:∀ q∈l,bt q.2<=N):bt ((lcmL l 1:Nat):Int)<=N * l.length + 1:=by
 have h1:=zlT (M:=2 ^ N) Nat.one_le_two_pow l 1 fun q hq=>Nat.le_of_lt (zqV (h q hq))
 rw [Nat.one_mul,<- Nat.pow_mul] at h1
 exact zcF (by rw [Int.natAbs_natCast]; exact Nat.lt_of_le_of_lt h1 (Nat.pow_lt_pow_right (by decide) (by omega)))
theorem zqI (l:List Fr2) {N:Nat} (hp:∀ q∈l,1<=q.2) (h:∀ q∈l,bt q.2<=N) (hN:N * l.length < 3999):zI [dP l]=some (.int (lcmL l 1:Nat)):=by
 rw [zep]
 refine zW ?_
 refine zG [some (dP l),some (.int 1),none] rfl ?_
 refine zdN dF l (fun i δ=>∃ (x:Option D),δ=[some (dP l),some (.int (lcmL (l.take i) 1:Nat)),x]) rfl ⟨none,rfl⟩ ?_ ?_
 ·rintro i q δ hq ⟨x,rfl⟩
  have h2:=hp q (List.mem_of_getElem? hq)
  have h3:=h q (List.mem_of_getElem? hq)
  have hi:i < l.length:=(List.getElem?_eq_some_iff.mp hq).1
  have hNi:N * i<=N * l.length:=Nat.mul_le_mul_left _ (by omega)
  have hN1:N<=N * l.length:=Nat.le_mul_of_pos_right _ (by omega)
  have hB:0 < lcmL (l.take i) 1:=zee _ 1 (by decide) fun q hq=>by have:=hp q (List.mem_of_mem_take hq); omega
  have e1:lcmL (l.take (i + 1)) 1=Nat.lcm (lcmL (l.take i) 1) q.2.natAbs:=by
   rw [List.take_succ,hq]
   show lcmL (l.take i ++ [q]) 1=_
   rw [zm0]; rfl
  have hb:bt ((lcmL (l.take i) 1:Nat):Int)<=9000:=by
   have:=zki (l:=l.take i) fun q hq=>h q (List.mem_of_mem_take hq)
   rw [List.length_take,Nat.min_eq_left (by omega)] at this
   exact zbt this (by omega)
  generalize lcmL (l.take i) 1=B at *
  obtain ⟨c,hc⟩:∃ c:Nat,q.2=c:=⟨q.2.toNat,by omega⟩
  rw [hc] at h3
  have hg:0 < Nat.gcd B c:=Nat.gcd_pos_of_pos_left _ hB
  have hgd:bt ((Nat.gcd B c:Nat):Int)<=9000:=by
   refine zbt (zf9 ?_ h3) (by omega)
   have:=Nat.le_of_dvd (by omega) (Nat.gcd_dvd_right B c)
   omega
  have hbx:bt ((B / Nat.gcd B c:Nat):Int)<=9000:=zf9 (by rw [Int.natAbs_natCast,Int.natAbs_natCast]; exact Nat.div_le_self _ _) hb
  have ed:B / Nat.gcd B c * c=Nat.lcm B c:=by
   unfold Nat.lcm
   obtain ⟨k,hk⟩:=Nat.gcd_dvd_left B c
   conv=>lhs; lhs; lhs; rw [hk]
   conv=>rhs; lhs; rw [hk]
   rw [Nat.mul_div_cancel_left _ hg,Nat.mul_assoc,Nat.mul_div_cancel_left _ hg]
  have i1:dIx (dF q) (.int 1)=some (.int (c:Nat)):=by rw [zhc,hc]
  refine ⟨_,[some (dP l),some (.int (lcmL (l.take (i + 1)) 1:Nat)),some (dF q)],rfl,?_,some (dF q),rfl⟩
  rw [e1,hc,Int.natAbs_natCast,<- ed]
  refine zJ (zj (zj rfl (zn (zb rfl (zb (zj rfl rfl i1) rfl)) rfl (zno _ _ (zbt h3 (by omega)))) (zh8 (a:=(B:Int)) (b:=((Nat.gcd B c:Nat):Int)) (by omega) hgd)) (zj rfl rfl i1) ?_)
  rw [<- Int.natCast_ediv,zcf (mulOk hbx (zbt h3 (show N<=9000 by omega))),<- Int.natCast_mul]
 ·rintro δ' ⟨x,rfl⟩
  rw [List.take_length]
  exact ret _ rfl (.mk rfl rfl)
noncomputable def topsO (l:List Fr2) (B:Int):List Int:=l.map fun q=>q.1 * (B / q.2)
theorem zkj (l:List Fr2) (B:Nat) (hp:∀ q∈l,1<=q.2) (h:∀ q∈l,bt q.2<=9000) (h1:∀ q∈l,bt q.1<=100000) (hB:bt (B:Int)<=9001) (hn:l.length<=100000):zab [dP l,.int (B:Nat)]=some ((topsO l B).map .int) /\ ∀ t∈topsO l B,bt t<=109001:=by
 have hd:∀ q∈l,bt ((B:Int) / q.2)<=9001:=fun q hq=>by
  rw [<- Int.fdiv_eq_ediv_of_nonneg _ (show 0<=q.2 by have:=hp q hq; omega)]
  exact intBits_fdiv_le hB
 constructor
 ·rw [zh7]
  refine zW (ret (.list ((topsO l B).map .int)) (zA ?_) (.mk rfl rfl))
  refine zc9 dF PyData.int (fun q=>q.1 * ((B:Int) / q.2)) l rfl hn fun q hq=>?_
  exact zj (zj rfl rfl (zgH q)) (zj rfl (zj rfl rfl (zhc q)) (zh8 (by have:=hp q hq; omega) (h q hq))) (zcf (mulOk (h1 q hq) (hd q hq)))
 ·intro t ht
  obtain ⟨q,hq,rfl⟩:=List.mem_map.mp ht
  exact zcY (h1 q hq) (hd q hq)
theorem za9 {p:List (List Int)} (hl:p.length<=24) (h25:∀ r∈p,r.length<=25) (l:List Fr2) (hn:l.length=(endsL p).length):zad [dPl p,dP l]=some .none:=by
 rw [zeM]
 have:zbc [some (dPl p),some (dP l)]=some (.nx [some (dPl p),some (dP l)]):=
  ze2 (zaI (zj (zbE (zb rfl rfl) (zlL l)) (zbE (zb (zA (zP (zb rfl rfl) rfl (zfj hl h25))) rfl) (zcM _)) ((ziN _ _).trans (by rw [List.length_map,hn,decide_eq_true rfl]; rfl))))
 rw [this]; rfl
theorem zmB {L b g:Nat} (hl:L<=24) (hbg:b + g<=L):b<=100 /\ g<=100 /\ g + 1<=100 /\ ∀ j,j < b + g + 1->j < L + 1:=⟨by omega,by omega,by omega,fun _ _=>by omega⟩
noncomputable def meanT (p:List (List Int)) (zs:List ((Int×Int)×Int)) (k:Nat):Int:=sm (fun z=>z.2 * waysF p z.1.1 z.1.2 * coZ k z.1.1 z.1.2) zs
theorem zlW {p:List (List Int)} (hp:Pl p) (hl:p.length<=24) (h25:∀ r∈p,r.length<=25) (l:List Fr2) {N:Nat} (hn:l.length=(endsL p).length) (hq:∀ q∈l,1<=q.2) (hN:∀ q∈l,bt q.2<=N) (hNl:N * l.length < 3999) (h1:∀ q∈l,bt q.1<=100000):
  zeF [dPl p,dP l]=some ((pTop (tab (p.length + 1) (meanT p ((endsL p).zip (topsO l (lcmL l 1))))) (lcmL l 1)).map dF):=by
 rw [zgn]
 refine zW ?_
 obtain ⟨B,hB⟩:∃ B,B=lcmL l 1:=⟨_,rfl⟩
 have hB0:0 < B:=by rw [hB]; exact zee _ 1 (by decide) fun q h=>by have:=hq q h; omega
 have hBb:bt (B:Int)<=4000:=by rw [hB]; exact zbt (zki hN) (by omega)
 have hel:=zdn hl h25
 have vc:=zqI l hq hN hNl
 have hN9:∀ q∈l,bt q.2<=9000:=fun q h=>by
  refine zbt (hN q h) ?_
  have:0 < l.length:=List.length_pos_of_mem h
  have:N<=N * l.length:=Nat.le_mul_of_pos_right _ this
  omega
 rw [<- hB] at vc ⊢
 obtain ⟨vt,bts⟩:=zkj l B hq hN9 h1 (zbt hBb (by decide)) (by omega)
 obtain ⟨kds,ew,hd⟩:=zdj hl h25 (0,0)
 have hd':Dt kds (waysF p):=hd
 refine zG [some (dPl p),some (dP l),none,none,none,none,none,none,none] ?_ ?_
 ·exact zdf (zn (zb rfl (zb rfl rfl)) rfl (za9 hl h25 l hn))
 refine zG [some (dPl p),some (dP l),some (.dict kds),none,none,none,none,none,none] (zJ (zn (zb rfl (zb rfl rfl)) rfl ew)) ?_
 refine zG [some (dPl p),some (dP l),some (.dict kds),some (.int (B:Nat)),none,none,none,none,none] (zJ (zn (zb rfl rfl) rfl vc)) ?_
 refine zG [some (dPl p),some (dP l),some (.dict kds),some (.int (B:Nat)),some (.list ((tab (p.length + 1) (meanT p [])).map .int)),none,none,none,none] (zlU ?_) ?_
 ·refine (zlb (ds:=[.int 0]) (n:=p.length + 1) rfl (zj (zbE (zb rfl rfl) (zfr _)) rfl (by rw [List.length_map]; rfl)) (by omega) (by simp; omega)).trans ?_
  congr 1
  have:tab (p.length + 1) (meanT p [])=List.replicate (p.length + 1) 0:=by
   unfold tab
   rw [List.eq_replicate_iff]
   refine ⟨by simp,fun b hb=>?_⟩
   obtain ⟨k,_,rfl⟩:=List.mem_map.mp hb
   rfl
  rw [this,List.map_replicate]
  simp
 obtain ⟨zs,hzs⟩:∃ zs,zs=(endsL p).zip (topsO l B):=⟨_,rfl⟩
 rw [<- hzs]
 refine zdN (fun z:(Int×Int)×Int=>PyData.tuple [dC z.1,.int z.2]) zs (fun i δ=>∃ a b c d,δ=[some (dPl p),some (dP l),some (.dict kds),some (.int (B:Nat)),some (.list ((tab (p.length + 1) (meanT p (zs.take i))).map .int)),a,b,c,d]) ?_ ⟨_,_,_,_,rfl⟩ ?_ ?_
 ·rw [hzs,<- zij]
  exact znD (zA (zP (zb rfl rfl) rfl (zfj hl h25))) (zA (zP (zb rfl (zb rfl rfl)) rfl vt))
 ·rintro i ⟨c,t⟩ δ hi ⟨a',b',c',d',rfl⟩
  have hm:=List.mem_of_getElem? hi
  rw [hzs] at hm
  have hc:=(List.of_mem_zip hm).1
  have ht:=bts t (List.of_mem_zip hm).2
  obtain ⟨b,g,he⟩:=ziV hp hc
  have hbg:=he.dr
  have hw:=zkN hl he
  have hget:=hd'.get (b:=c.1) (g:=c.2) (Int.ne_of_gt he.pos)
  have hcb:c.1=(b:Int):=by rw [he.eq]
  have hcg:c.2=(g:Int):=by rw [he.eq]
  obtain ⟨w,hwe⟩:∃ w,w=waysF p c.1 c.2:=⟨_,rfl⟩
  rw [<- hwe] at hw hget
  obtain ⟨m1,m2,m3,m4⟩:=zmB hl hbg
  have vo:=zfo b g m1 m2
  rw [zeE,List.map_map] at vo
  obtain ⟨S,hS⟩:∃ S,S=meanT p (zs.take i):=⟨_,rfl⟩
  rw [<- hS]
  have hnext:∀ k,meanT p (zs.take (i + 1)) k=S k + t * w * co b g k:=by
   intro k
   unfold meanT at hS ⊢
   rw [List.take_add_one,hi,ziK,hS]
   have e1:sm (fun z:(Int×Int)×Int=>z.2 * waysF p z.1.1 z.1.2 * coZ k z.1.1 z.1.2) (some (c,t)).toList=t * w * co b g k:=by
    show sm _ [(c,t)]=_
    rw [za7,zgp,Int.add_zero,hwe]
    show t * waysF p c.1 c.2 * coZ k c.1 c.2=_
    have e2:coZ k c.1 c.2=co b g k:=by rw [hcb,hcg]; rfl
    rw [e2]
   rw [e1]
  obtain ⟨δ',e2,x',y',rfl⟩:=zev (t:=gTupT 2 (gConsT (gName' 7) (gConsT (gName' 8) gNilT))) (b:=gAugIx 4 (fun i j=>i + j) (gVar 7) (g2 dMulI (g2 dMulI (gVar 6) (gDget (gVar 2) (gVar 5))) (g2 dIx (gVar 8) (gC (.int (0)))))) (fun x:Int×Nat=>PyData.tuple [.int (x.2:Nat),dF (x.1,1)])
   (fun j δ=>∃ x y,δ=[some (dPl p),some (dP l),some (.dict kds),some (.int (B:Nat)),some (.list ((tab (p.length + 1) fun k=>S k + if k < j then t * w * co b g k else 0).map .int)),some (dC c),some (.int t),x,y]) (cntP b g).zipIdx (δ:=[some (dPl p),some (dP l),some (.dict kds),some (.int (B:Nat)),some (.list ((tab (p.length + 1) S).map .int)),some (dC c),some (.int t),c',d']) ⟨c',d',by
    have e0:(tab (p.length + 1) fun k=>S k + if k < 0 then t * w * co b g k else 0)=tab (p.length + 1) S:=zeW fun k _=>by simp
    rw [e0]⟩ (by
    rintro j ⟨u,n⟩ δ hj ⟨x,y,rfl⟩
    rw [List.getElem?_zipIdx] at hj
    cases eu:(cntP b g)[j]? with
    | none=>rw [eu] at hj; cases hj
    | some u'=>
    rw [eu] at hj
    simp only [Option.map_some,Nat.zero_add,Option.some.injEq,Prod.mk.injEq] at hj
    obtain ⟨rfl,rfl⟩:=hj
    have hjl:=(List.getElem?_eq_some_iff.mp eu).1
    rw [zfK] at hjl
    have hu:u'=co b g j:=by rw [<- zmt,List.getD_eq_getElem?_getD,eu]; rfl
    have bu:bt u'<=100:=zbt (zj6 (List.mem_of_getElem? eu)) m3
    refine ⟨_,[some (dPl p),some (dP l),some (.dict kds),some (.int (B:Nat)),some (.list ((tab (p.length + 1) fun k=>S k + if k < j + 1 then t * w * co b g k else 0).map .int)),some (dC c),some (.int t),some (.int (j:Nat)),some (dF (u',1))],rfl,?_,_,_,rfl⟩
    refine (zn1 (y:=t * w * u') (k:=j) rfl rfl (zj (zj rfl ((zlx (c:=c) rfl rfl hd'.fn).trans hget) (zcf (mulOk ht hw))) (zj rfl rfl (zgH _)) (zcf (mulOk (zcY ht hw) bu))) (m4 j hjl)).trans ?_
    have:(tab (p.length + 1) fun k=>if j=k then (S j + if j < j then t * w * co b g j else 0) + t * w * u' else S k + if k < j then t * w * co b g k else 0)=tab (p.length + 1) fun k=>S k + if k < j + 1 then t * w * co b g k else 0:=zeW fun k _=>by
     by_cases h:j=k
     ·subst h; rw [if_pos rfl,if_neg (Nat.lt_irrefl _),if_pos (Nat.lt_succ_self _),hu,Int.add_zero]
     ·rw [if_neg h]
      by_cases h2:k < j
      ·rw [if_pos h2,if_pos (Nat.lt_succ_of_lt h2)]
      ·rw [if_neg h2,if_neg fun z=>h2 (Nat.lt_of_le_of_ne (Nat.le_of_lt_succ z) (Ne.symm h))]
    rw [<- this]
    rfl)
  refine ⟨_,[some (dPl p),some (dP l),some (.dict kds),some (.int (B:Nat)),some (.list ((tab (p.length + 1) (meanT p (zs.take (i + 1)))).map .int)),some (dC c),some (.int t),x',y'],rfl,?_,_,_,_,_,rfl⟩
  have hen:∀ {δ:DS},gVar 5 δ=some (dC c)->gEnumerate (gLst (gCallN zak 2 (gConsA (g2 dIx (gVar 5) (gC (.int (0)))) (gConsA (g2 dIx (gVar 5) (gC (.int (1)))) gNilA)))) δ=some ((cntP b g).zipIdx.map fun x=>PyData.tuple [.int (x.2:Nat),dF (x.1,1)]):=fun {δ} h5=>by
   refine zoP (l:=(cntP b g).map (dF ∘ fun t=>((t,1):Fr2))) (zA (zP (zb (zj h5 rfl (show dIx (dC c) (.int 0)=some (.int (b:Nat)) by show some (PyData.int c.1)=_; rw [hcb])) (zb (zj h5 rfl (show dIx (dC c) (.int 1)=some (.int (g:Nat)) by show some (PyData.int c.2)=_; rw [hcg])) rfl)) rfl vo)) ?_
   rw [zm5]
   rfl
  refine znB (hen rfl) (e2.trans ?_)
  have e9:(tab (p.length + 1) fun k=>S k + if k < (cntP b g).zipIdx.length then t * w * co b g k else 0)=tab (p.length + 1) (meanT p (zs.take (i + 1))):=zeW fun k _=>by
   rw [hnext k,List.length_zipIdx,zfK]
   by_cases h:k < b + g + 1
   ·rw [if_pos h]
   ·rw [if_neg h]
    have:co b g k=0:=by unfold co; rw [if_neg (by omega),zid (by omega)]
    rw [this]; simp
  rw [e9]
 ·rintro δ' ⟨a',b',c',d',rfl⟩
  rw [List.take_length]
  refine ret _ (zA (zP (zb (zA (zc9 PyData.int dF (fun t=>qmk t B) (tab (p.length + 1) (meanT p zs)) rfl (by rw [zlO]; omega) fun t _=>?_)) rfl) rfl (zgI _))) (.mk rfl rfl)
  exact zn (zb rfl (zb rfl rfl)) rfl (zeD t B (by omega) hBb)
end MyLaw
namespace MyLaw
open PySem L2 Q1
noncomputable def fall (n:Int):Nat->Int
 | 0=>1
 | k + 1=>fall n k * (n - k)
theorem zga {n:Int}:∀ {k:Nat},(k:Int)<=n->0 < fall n k
 | 0,_=>by show (0:Int) < 1; decide
 | k + 1,h=>Int.mul_pos (zga (by omega)) (by omega)
theorem zhU {n:Int} (h1: -1000<=n) (h2:n<=1000):∀ {k:Nat},k<=1000->bt (fall n k)<=11 * k + 1
 | 0,_=>zcF (m:=1) (show (1:Int).natAbs < 2 ^ 1 by decide)
 | k + 1,hk=>zbt (zcY (zhU h1 h2 (by omega)) (zcF (m:=11) (by omega))) (by omega)
theorem zbC {n:Int} (h1: -1000<=n) (h2:n<=1000) {k:Nat} (hk:k<=60):bt (fall n k)<=1000:=zbt (zhU h1 h2 (by omega)) (by omega)
theorem zcI (n:Int) (k:Nat) (h1: -1000<=n) (h2:n<=1000) (hk:k<=60):z7 [.int n,.int (k:Nat)]=some (.int (fall n k)):=by
 rw [zkE]
 refine zW ?_
 refine zG [some (.int n),some (.int (k:Nat)),some (.int 1),none] rfl ?_
 refine zcT 0 k (fun i δ=>∃ z:Option D,δ=[some (.int n),some (.int (k:Nat)),some (.int (fall n i)),z]) (zbZ rfl (by omega)) ⟨none,rfl⟩ ?_ ?_
 ·rintro i δ hi ⟨z,rfl⟩
  rw [Int.zero_add]
  exact ⟨_,[some (.int n),some (.int (k:Nat)),some (.int (fall n (i + 1))),some (.int (i:Nat))],rfl,zJ (zj rfl (zj rfl rfl rfl) (zcf (mulOk (zbC h1 h2 (show i<=60 by omega)) (zcF (m:=12) (by omega))))),_,rfl⟩
 ·rintro δ' ⟨z,rfl⟩
  exact ret (.int (fall n k)) rfl (.mk rfl rfl)
structure Lot (p:List (List Int)) (s d:Int):Prop where
 s1:(p.length:Int)<=s
 s2:s<=200
 d1:0<=d
 d2:d<=s
theorem zgU {s d:Int} (b g:Nat) (h1:0<=d) (h2:d<=s) (h3:s<=200) (hb:b<=24) (hg:g<=24):zaE [dC ((b:Int),(g:Int)),.int s,.int d]=some (.int (fall d b * fall (s - d) g)):=by
 rw [zkR]
 exact zW (ret _ (zj (zn (zb rfl (zb (zj rfl rfl atI0) rfl)) rfl (zcI d b (by omega) (by omega) (by omega))) (zn (zb (zj rfl rfl rfl) (zb (zj rfl rfl atI1) rfl)) rfl (zcI (s - d) g (by omega) (by omega) (by omega))) (zcf (mulOk (zbC (by omega) (by omega) (by omega)) (zbC (by omega) (by omega) (by omega))))) (.mk rfl rfl))
theorem zgr {p:List (List Int)} {s d:Int} (h:Lot p s d):zbx [dPl p,.int s]=some .none:=by
 rw [zgF]
 have ⟨h1,h2,h3,h4⟩:=h
 have:zca [some (dPl p),some (.int s)]=some (.nx [some (dPl p),some (.int s)]):=by
  refine ze2 (zer (x:=true) (zaI (zin (zbE (zb rfl rfl) (zfr _)) rfl ?_ rfl ?_)))
  ·show some (PyData.bool (decide ((((p.map dR).length:Nat):Int)<=s)))=_
   rw [List.length_map,decide_eq_true h1]
  ·show some (PyData.bool (decide (s<=200)))=_
   rw [decide_eq_true h2]
 rw [this]; rfl
theorem zcy {p:List (List Int)} {s d:Int} (h:Lot p s d):zaW [dPl p,.int s,.int d]=some .none:=by
 rw [zhJ]
 have ⟨h1,h2,h3,h4⟩:=h
 have e:zcr [some (dPl p),some (.int s),some (.int d)]=some (.nx [some (dPl p),some (.int s),some (.int d)]):=by
  refine zaq [some (dPl p),some (.int s),some (.int d)] ?_ (ze2 (zer (x:=true) (zaI (zin rfl rfl ?_ rfl ?_))))
  ·exact zdf (zn (zb rfl (zb rfl rfl)) rfl (zgr h))
  ·show some (PyData.bool (decide (0<=d)))=_
   rw [decide_eq_true h3]
  ·show some (PyData.bool (decide (d<=s)))=_
   rw [decide_eq_true h4]
 rw [e]; rfl
noncomputable def loT (p:List (List Int)) (b g:Nat) (s d:Int):Int:=waysF p b g * (fall d b * fall (s - d) g)
theorem zjP {p:List (List Int)} (hp:Pl p) (hl:p.length<=24) (h25:∀ r∈p,r.length<=25) {c:Int×Int} (hc:c∈endsL p) {b g:Nat} (he:EndOk p c b g) {s d:Int} (h:Lot p s d):zdF [dPl p,dC c,.int s,.int d]=some (dF (qmk (loT p b g s d) (fall s (b + g)))):=by
 rw [zfs]
 have ⟨h1,h2,h3,h4⟩:=h
 have hbg:=he.dr
 have vw:zap [dPl p,dC c]=some (.int (waysF p c.1 c.2)):=zg5 hl h25 c
 have hw:=zkN hl he
 have ve:=zb8 hl h25 [c] (fun z hz=>by rw [List.mem_singleton.mp hz]; exact hc)
 have hcc:=he.eq
 subst hcc
 have hf:0 < fall s (b + g):=zga (by omega)
 have vf:=zeD (loT p b g s d) (fall s (b + g)) (by omega) (zbt (zbC (by omega) (by omega) (by omega)) (by decide))
 refine zW ?_
 refine zG [some (dPl p),some (dC ((b:Int),(g:Int))),some (.int s),some (.int d)] ?_ (zG [some (dPl p),some (dC ((b:Int),(g:Int))),some (.int s),some (.int d)] ?_ (ret _ (zn (zb (zj (zn (zb rfl (zb rfl rfl)) rfl vw) (zn (zb rfl (zb rfl (zb rfl rfl))) rfl (zgU b g h3 h4 h2 (by omega) (by omega))) (zcf (mulOk hw (zcY (zbC (by omega) (by omega) (by omega)) (zbC (by omega) (by omega) (by omega)))))) (zb (zn (zb rfl (zb (zj (zj rfl rfl atI0) (zj rfl rfl atI1) rfl) rfl)) rfl (zcI s (b + g) (by omega) (by omega) (by omega))) rfl)) rfl vf) (.mk rfl rfl)))
 ·exact zdf (zn (zb rfl (zb rfl (zb rfl rfl))) rfl (zcy h))
 ·exact zdf (zn (zb rfl (zb (zA rfl) rfl)) rfl ve)
end MyLaw
namespace MyLaw
noncomputable def A1:Int->Int:=fun b=>if b=1 then 1 else 0
noncomputable def FB (p:List (List Int)):Nat->Int->Int
 | 0,_=>0
 | k + 1,x=>WW A1 p.tail k x
end MyLaw
namespace MyLaw
noncomputable def loP (L:Nat) (s d:Int) (x y:Int):Int:=fall d x.toNat * fall (s - d) y.toNat * fall (s - x - y) (L - (x + y).toNat)
end MyLaw
namespace MyLaw
open PySem L2 Q1
theorem zof {i:Nat} {f:Int->Int->Int} {ge:DS->Option D} {δ:DS} {a b:Int} (h1:gVar i δ=some (.int a)) (h2:ge δ=some (.int b)):gAugI i f ge δ=some (.nx (δ.set i (some (.int (f a b))))):=by
 unfold gAugI; rw [h1,h2]; rfl
theorem zpd (L:Nat) (s d:Int) (b g:Nat):loP L s d b g=fall d b * fall (s - d) g * fall (s - (b:Int) - (g:Int)) (L - (b + g)):=by
 unfold loP
 rw [Int.toNat_natCast,Int.toNat_natCast,show ((b:Int) + (g:Int)).toNat=b + g by omega]
noncomputable def lotT (p:List (List Int)) (s d:Int) (zs:List ((Int×Int)×Int)):Int:=sm (fun z=>z.2 * waysF p z.1.1 z.1.2 * loP p.length s d z.1.1 z.1.2) zs
theorem ziX {p:List (List Int)} (hp:Pl p) (hl:p.length<=24) (h25:∀ r∈p,r.length<=25) (l:List Fr2) {N:Nat} (hn:l.length=(endsL p).length) (hq:∀ q∈l,1<=q.2) (hN:∀ q∈l,bt q.2<=N) (hNl:N * l.length < 3500) (h1:∀ q∈l,bt q.1<=100000) {s d:Int} (h:Lot p s d):
  zdW [dPl p,dP l,.int s,.int d]=some (dF (qmk (lotT p s d ((endsL p).zip (topsO l (lcmL l 1)))) ((lcmL l 1:Int) * fall s p.length))):=by
 rw [zfh]
 refine zW ?_
 have ⟨s1,s2,d1,d2⟩:=h
 obtain ⟨B,hB⟩:∃ B,B=lcmL l 1:=⟨_,rfl⟩
 have hB0:0 < B:=by rw [hB]; exact zee _ 1 (by decide) fun q h=>by have:=hq q h; omega
 have hBb:bt (B:Int)<=3500:=by rw [hB]; exact zbt (zki hN) (by omega)
 have hel:=zdn hl h25
 have vc:=zqI l hq hN (by omega)
 have hN9:∀ q∈l,bt q.2<=9000:=fun q h=>by
  refine zbt (hN q h) ?_
  have:0 < l.length:=List.length_pos_of_mem h
  have:N<=N * l.length:=Nat.le_mul_of_pos_right _ this
  omega
 rw [<- hB] at vc ⊢
 obtain ⟨vt,bts⟩:=zkj l B hq hN9 h1 (zbt hBb (by decide)) (by omega)
 obtain ⟨kds,ew,hd⟩:=zdj hl h25 (0,0)
 have hd':Dt kds (waysF p):=hd
 have hF:0 < fall s p.length:=zga (by omega)
 have bF:bt (fall s p.length)<=400:=zbt (zhU (by omega) (by omega) (by omega)) (by omega)
 refine zG [some (dPl p),some (dP l),some (.int s),some (.int d),none,none,none,none,none,none] (zdf (zn (zb rfl (zb rfl (zb rfl rfl))) rfl (zcy h))) ?_
 refine zG [some (dPl p),some (dP l),some (.int s),some (.int d),none,none,none,none,none,none] (zdf (zn (zb rfl (zb rfl rfl)) rfl (za9 hl h25 l hn))) ?_
 refine zG [some (dPl p),some (dP l),some (.int s),some (.int d),some (.dict kds),none,none,none,none,none] (zJ (zn (zb rfl (zb rfl rfl)) rfl ew)) ?_
 refine zG [some (dPl p),some (dP l),some (.int s),some (.int d),some (.dict kds),some (.int (B:Nat)),none,none,none,none] (zJ (zn (zb rfl rfl) rfl vc)) ?_
 refine zG [some (dPl p),some (dP l),some (.int s),some (.int d),some (.dict kds),some (.int (B:Nat)),some (.int 0),none,none,none] rfl ?_
 obtain ⟨zs,hzs⟩:∃ zs,zs=(endsL p).zip (topsO l B):=⟨_,rfl⟩
 rw [<- hzs]
 have lenp:∀ {δ:DS},gVar 0 δ=some (dPl p)->gB1 dLen (gConsA (gVar 0) gNilA) δ=some (.int (p.length:Nat)):=fun h0=>zbE (zb h0 rfl) ((zfr _).trans (by rw [List.length_map]))
 refine zdN (fun z:(Int×Int)×Int=>PyData.tuple [dC z.1,.int z.2]) zs (fun i δ=>∃ a b c,δ=[some (dPl p),some (dP l),some (.int s),some (.int d),some (.dict kds),some (.int (B:Nat)),some (.int (lotT p s d (zs.take i))),a,b,c]) ?_ ⟨_,_,_,rfl⟩ ?_ ?_
 ·rw [hzs,<- zij]
  exact znD (zA (zP (zb rfl rfl) rfl (zfj hl h25))) (zA (zP (zb rfl (zb rfl rfl)) rfl vt))
 ·rintro i ⟨c,t⟩ δ hi ⟨a',b',c',rfl⟩
  have hm:=List.mem_of_getElem? hi
  rw [hzs] at hm
  have hc:=(List.of_mem_zip hm).1
  have ht:=bts t (List.of_mem_zip hm).2
  obtain ⟨b,g,he⟩:=ziV hp hc
  have hbg:=he.dr
  have hw:=zkN hl he
  have hget:=hd'.get (b:=c.1) (g:=c.2) (by have:=he.pos; omega)
  have hcc:=he.eq
  subst hcc
  obtain ⟨w,hwe⟩:∃ w,w=waysF p (b:Int) (g:Int):=⟨_,rfl⟩
  rw [<- hwe] at hw hget
  have hnext:lotT p s d (zs.take (i + 1))=lotT p s d (zs.take i) + t * w * loP p.length s d b g:=by
   unfold lotT
   rw [List.take_add_one,hi,ziK]
   have e1:sm (fun z:(Int×Int)×Int=>z.2 * waysF p z.1.1 z.1.2 * loP p.length s d z.1.1 z.1.2) (some (((b:Int),(g:Int)),t)).toList=t * w * loP p.length s d b g:=by
    show sm _ [(((b:Int),(g:Int)),t)]=_
    rw [za7,zgp,Int.add_zero,hwe]
   rw [e1]
  have e3:(p.length:Int) - ((b:Int) + (g:Int))=((p.length - (b + g):Nat):Int):=by omega
  have b1:=zbC (n:=d) (k:=b) (by omega) (by omega) (by omega)
  have b2:=zbC (n:=s - d) (k:=g) (by omega) (by omega) (by omega)
  have b3:=zbC (n:=s - ((b:Int) + (g:Int))) (k:=p.length - (b + g)) (by omega) (by omega) (by omega)
  have vfl:=zcI (s - ((b:Int) + (g:Int))) (p.length - (b + g)) (by omega) (by omega) (by omega)
  rw [<- e3] at vfl
  have hval:t * w * (fall d b * fall (s - d) g) * fall (s - ((b:Int) + (g:Int))) (p.length - (b + g))=t * w * loP p.length s d b g:=by
   rw [zpd,show s - (b:Int) - (g:Int)=s - ((b:Int) + (g:Int)) by omega,Int.mul_assoc (t * w)]
  refine ⟨_,[some (dPl p),some (dP l),some (.int s),some (.int d),some (.dict kds),some (.int (B:Nat)),some (.int (lotT p s d (zs.take (i + 1)))),some (dC ((b:Int),(g:Int))),some (.int t),some (.int ((b:Int) + (g:Int)))],rfl,?_,_,_,_,rfl⟩
  refine zaq [some (dPl p),some (dP l),some (.int s),some (.int d),some (.dict kds),some (.int (B:Nat)),some (.int (lotT p s d (zs.take i))),some (dC ((b:Int),(g:Int))),some (.int t),some (.int ((b:Int) + (g:Int)))] (zJ (zj (zj rfl rfl atI0) (zj rfl rfl atI1) rfl)) ?_
  refine (zof (a:=lotT p s d (zs.take i)) (b:=t * w * loP p.length s d b g) rfl (zj (zj (zj rfl ((zlx (c:=((b:Int),(g:Int))) rfl rfl hd'.fn).trans hget) (zcf (mulOk ht hw))) (zn (zb rfl (zb rfl (zb rfl rfl))) rfl (zgU b g d1 d2 s2 (by omega) (by omega))) (zcf (mulOk (zcY ht hw) (zcY b1 b2)))) (zn (zb (zj rfl rfl rfl) (zb (zj (lenp rfl) rfl rfl) rfl)) rfl vfl) ((zcf (mulOk (zcY (zcY ht hw) (zcY b1 b2)) b3)).trans (by rw [hval])))).trans ?_
  rw [hnext]
  rfl
 ·rintro δ' ⟨a',b',c',rfl⟩
  rw [List.take_length]
  refine ret _ (zn (zb rfl (zb (zj rfl (zn (zb rfl (zb (lenp rfl) rfl)) rfl (zcI s p.length (by omega) (by omega) (by omega))) (zcf (mulOk hBb bF))) rfl)) rfl (zeD _ _ (Int.mul_ne_zero (by omega) (by omega)) (zbt (zcY hBb bF) (by decide)))) (.mk rfl rfl)
end MyLaw
namespace MyLaw
open PySem L2 Q1
theorem seqR {x y:DS->Option D} {rest:DS->Option Res} {δ:DS} (hx:x δ=some .none) (hy:y δ=some .none):gSeq (gDropR x) rest δ=gSeq (gDrop y) rest δ:=by
 unfold gSeq gDropR gDrop; rw [hx,hy]; rfl
theorem seqR1 {x:DS->Option D} {rest:DS->Option Res} {δ:DS} (hx:x δ=some .none):gSeq (gDropR x) rest δ=rest δ:=by
 unfold gSeq gDropR; rw [hx]; rfl
theorem seqG1 {x:DS->Option D} {rest:DS->Option Res} {δ:DS} (hx:x δ=some .none):gSeq (gDrop x) rest δ=rest δ:=by
 unfold gSeq gDrop; rw [hx]; rfl
theorem seqX {x:DS->Option D} {rest:DS->Option Res} {δ:DS} {c:Str} (hx:x δ=some (rxD c)):gSeq (gDropR x) rest δ=some (.rt (rxD c)):=by
 unfold gSeq gDropR; rw [hx]; rfl
theorem zpy {r:Option Res} {l:List D} (h:r.bind gOutN=some l):r.bind gOut=some (.list l):=by
 obtain ⟨r,rfl,k⟩:=Option.bind_eq_some_iff.mp h
 clear h
 show gOut r=_
 unfold gOutN at k
 split at k
 ·cases k; rfl
 ·cases k
theorem zfl {i:Nat} {g:DS->Option D} {δ:DS} {c:Str} (h:g δ=some (rxD c)):gSetR i g δ=some (.rt (rxD c)):=by unfold gSetR; rw [h]; rfl
theorem ziq {i:Nat} {g:DS->Option D} {δ:DS} {d:D} (h:g δ=some d) (hd:isRx d=none):gSetR i g δ=some (.nx (δ.set i (some d))):=by
 unfold gSetR; rw [h]; show some (orRx d _)=_; rw [zeX hd]
theorem zqc {gb:DS->Option Res} {hand:Str->Option D} {δ:DS} {c:Str} {d:D} (h:gb δ=some (.rt (rxD c))) (hh:hand c=some d):gTry gb hand δ=some (.rt d):=by
 unfold gTry; rw [h]; show (hand c).bind _=_; rw [hh]; rfl
theorem znQ {gb:DS->Option Res} {hand:Str->Option D} {δ δ':DS} (h:gb δ=some (.nx δ')):gTry gb hand δ=some (.nx δ'):=by unfold gTry; rw [h]; rfl
theorem zoe {a b:DS->Option D} {δ:DS} {x y:Bool} (h1:a δ=some (.bool x)) (h2:b δ=some (.bool y)):gOrV a b δ=some (.bool (x || y)):=by
 unfold gOrV
 rw [zaI h1,Option.bind_some]
 cases x with
 | true=>rfl
 | false=>rw [if_neg Bool.false_ne_true,h2]; rfl
section
variable {p:List (List Int)} (hp:Pl p) (hl:p.length<=24) (h25:∀ r∈p,r.length<=25)
include hl h25
theorem zka (c:Int×Int):zaB [dPl p,.list [dC c]]=some (if c∈endsL p then .none else rxD "NoEnd"):=by
 rw [zfS]
 have e1:gSet 2 (gLst (gCallN zaN 1 (gConsA (gVar 0) gNilA))) [some (dPl p),some (.list [dC c]),none,none]=some (.nx [some (dPl p),some (.list [dC c]),some (.list ((endsL p).map dC)),none]):=zJ (zA (zP (zb rfl rfl) rfl (zfj hl h25)))
 have hc:gB (g2 (dInT true) (gVar 3) (gVar 2)) [some (dPl p),some (.list [dC c]),some (.list ((endsL p).map dC)),some (dC c)]=some (!decide (c∈endsL p)):=zaI (zj rfl rfl ((zkI true c (endsL p)).trans (by cases decide (c∈endsL p) <;> rfl)))
 rw [show zcb [some (dPl p),some (.list [dC c]),none,none]=_ from zcu e1]
 have h:gIf (gB (g2 (dInT true) (gVar 3) (gVar 2))) (gRaise "NoEnd") gSkip [some (dPl p),some (.list [dC c]),some (.list ((endsL p).map dC)),some (dC c)]=some (if c∈endsL p then .nx [some (dPl p),some (.list [dC c]),some (.list ((endsL p).map dC)),some (dC c)] else .rt (rxD "NoEnd")):=by
  by_cases q:c∈endsL p
  ·rw [decide_eq_true q] at hc; rw [if_pos q]; exact ze2 hc
  ·rw [decide_eq_false q] at hc; rw [if_neg q]; exact zdx true hc (fun _=>rfl) fun z=>nomatch z
 show ((gFor (gItems (gVar 1)) (gName' 3) _ _:Option Res)).bind gOut=_
 unfold gFor
 rw [show gItems (gVar 1) [some (dPl p),some (.list [dC c]),some (.list ((endsL p).map dC)),none]=some [dC c] from rfl,Option.bind_some]
 unfold forD
 rw [show gName' 3 (dC c) [some (dPl p),some (.list [dC c]),some (.list ((endsL p).map dC)),none]=some [some (dPl p),some (.list [dC c]),some (.list ((endsL p).map dC)),some (dC c)] from rfl,Option.bind_some,h]
 by_cases q:c∈endsL p
 ·rw [if_pos q,if_pos q]; rfl
 ·rw [if_neg q,if_neg q]; rfl
theorem zfd (l:List Fr2):zaf [dPl p,dP l]=some (if l.length=(endsL p).length then .none else rxD "NoTelling"):=by
 rw [zd4]
 have hc:gB (g2 dNe (gB1 dLen (gConsA (gVar 1) gNilA)) (gB1 dLen (gConsA (gLst (gCallN zaN 1 (gConsA (gVar 0) gNilA))) gNilA))) [some (dPl p),some (dP l)]=some (!decide (l.length=(endsL p).length)):=zaI (zj (zbE (zb rfl rfl) (zlL l)) (zbE (zb (zA (zP (zb rfl rfl) rfl (zfj hl h25))) rfl) (zcM _)) ((ziN _ _).trans (by rw [List.length_map]; congr 3; exact decide_eq_decide.mpr (by omega))))
 by_cases q:l.length=(endsL p).length
 ·rw [decide_eq_true q] at hc
  rw [if_pos q,show zaF [some (dPl p),some (dP l)]=_ from ze2 hc]; rfl
 ·rw [decide_eq_false q] at hc
  rw [if_neg q,show zaF [some (dPl p),some (dP l)]=some (.rt (rxD "NoTelling")) from zdx true hc (fun _=>rfl) fun z=>nomatch z]; rfl
omit hl h25
theorem zop (s:Int):zby [dPl p,.int s]=some (if (p.length:Int)<=s /\ s<=200 then .none else rxD "NoLot"):=by
 rw [zfV]
 have hc:gNot (gB (gChain dLe dLe (gB1 dLen (gConsA (gVar 0) gNilA)) (gVar 1) (gC (.int (200))))) [some (dPl p),some (.int s)]=some (!(decide ((p.length:Int)<=s) && decide (s<=200))):=zer (zaI (zhQ (zbE (zb rfl rfl) ((zfr _).trans (by rw [List.length_map]))) rfl rfl rfl rfl))
 rw [<- Bool.decide_and] at hc
 by_cases q:(p.length:Int)<=s /\ s<=200
 ·rw [decide_eq_true q] at hc
  rw [if_pos q,show zbA [some (dPl p),some (.int s)]=_ from ze2 hc]; rfl
 ·rw [decide_eq_false q] at hc
  rw [if_neg q,show zbA [some (dPl p),some (.int s)]=some (.rt (rxD "NoLot")) from zdx true hc (fun _=>rfl) fun z=>nomatch z]; rfl
theorem znx (s d:Int):(Lot p s d->zaA [dPl p,.int s,.int d]=some .none) /\ (¬ Lot p s d->zaA [dPl p,.int s,.int d]=some (rxD "NoLot")):=by
 rw [zhk]
 have h1:=zop (p:=p) s
 have hc:gNot (gB (gChain dLe dLe (gC (.int (0))) (gVar 2) (gVar 1))) [some (dPl p),some (.int s),some (.int d)]=some (!(decide (0<=d) && decide (d<=s))):=zer (zaI (zhQ rfl rfl rfl rfl rfl))
 rw [<- Bool.decide_and] at hc
 by_cases q:(p.length:Int)<=s /\ s<=200
 ·rw [if_pos q] at h1
  have e:zbS [some (dPl p),some (.int s),some (.int d)]=_:=seqR1 (zn (zb rfl (zb rfl rfl)) rfl h1)
  rw [e]
  by_cases q2:0<=d /\ d<=s
  ·rw [decide_eq_true q2] at hc
   rw [ze2 hc]
   exact ⟨fun _=>rfl,fun n=>absurd ⟨q.1,q.2,q2.1,q2.2⟩ n⟩
  ·rw [decide_eq_false q2] at hc
   rw [zdx (r:=some (.rt (rxD "NoLot"))) true hc (fun _=>rfl) fun z=>nomatch z]
   exact ⟨fun L=>absurd ⟨L.d1,L.d2⟩ q2,fun _=>rfl⟩
 ·rw [if_neg q] at h1
  have e:zbS [some (dPl p),some (.int s),some (.int d)]=_:=seqX (zn (zb rfl (zb rfl rfl)) rfl h1)
  rw [e]
  exact ⟨fun L=>absurd ⟨L.s1,L.s2⟩ q,fun _=>rfl⟩
include hp hl h25
theorem zku (c:Int×Int):(c∈endsL p->∃ l,zff [dPl p,dC c]=some (.list l)) /\ (c∉endsL p->zff [dPl p,dC c]=some (rxD "NoEnd")):=by
 have h1:=zka hl h25 c
 rw [zox]
 constructor
 ·intro q
  rw [if_pos q] at h1
  obtain ⟨b,g,he⟩:=ziV hp q
  have vo:=zps hp hl h25 q he
  rw [zns] at vo
  have e:zgc [some (dPl p),some (dC c)]=ziy [some (dPl p),some (dC c)]:=seqR (zn (zb rfl (zb (zA rfl) rfl)) rfl h1) (zn (zb rfl (zb (zA rfl) rfl)) rfl (zb8 hl h25 [c] (fun z hz=>by rw [List.mem_singleton.mp hz]; exact q)))
  exact ⟨_,e ▸ zpy vo⟩
 ·intro q
  rw [if_neg q] at h1
  have e:zgc [some (dPl p),some (dC c)]=_:=seqX (zn (zb rfl (zb (zA rfl) rfl)) rfl h1)
  rw [e]; rfl
theorem zc0 (c:Int×Int) (s d:Int):(¬ Lot p s d->zbl [dPl p,dC c,.int s,.int d]=some (rxD "NoLot")) /\ (Lot p s d->(c∈endsL p->∃ q,zbl [dPl p,dC c,.int s,.int d]=some (dF q)) /\ (c∉endsL p->zbl [dPl p,dC c,.int s,.int d]=some (rxD "NoEnd"))):=by
 have h0:=znx (p:=p) s d
 have h1:=zka hl h25 c
 rw [zh4]
 constructor
 ·intro n
  have e:zbr [some (dPl p),some (dC c),some (.int s),some (.int d)]=_:=seqX (zn (zb rfl (zb rfl (zb rfl rfl))) rfl (h0.2 n))
  rw [e]; rfl
 ·intro L
  have e:zbr [some (dPl p),some (dC c),some (.int s),some (.int d)]=_:=seqR1 (zn (zb rfl (zb rfl (zb rfl rfl))) rfl (h0.1 L))
  constructor
  ·intro q
   rw [if_pos q] at h1
   obtain ⟨b,g,he⟩:=ziV hp q
   have vo:=zjP hp hl h25 q he L
   rw [zfs] at vo
   have e2:zcV [some (dPl p),some (dC c),some (.int s),some (.int d)]=_:=(seqG1 (zn (zb rfl (zb rfl (zb rfl rfl))) rfl (zcy L))).trans (seqG1 (zn (zb rfl (zb (zA rfl) rfl)) rfl (zb8 hl h25 [c] (fun z hz=>by rw [List.mem_singleton.mp hz]; exact q))))
   have e3:zbr [some (dPl p),some (dC c),some (.int s),some (.int d)]=_:=e.trans (seqR1 (zn (zb rfl (zb (zA rfl) rfl)) rfl h1))
   rw [e2] at vo
   rw [e3]
   exact ⟨_,vo⟩
  ·intro q
   rw [if_neg q] at h1
   have e3:zbr [some (dPl p),some (dC c),some (.int s),some (.int d)]=_:=e.trans (seqX (zn (zb rfl (zb (zA rfl) rfl)) rfl h1))
   rw [e3]; rfl
section
variable (l:List Fr2) (l1:∀ q∈l,q.2=1) (l2:∀ q∈l,bt q.1<=100000)
include l1 l2
theorem zk2:(l.length=(endsL p).length->∃ m,zcj [dPl p,dP l]=some (.list m)) /\ (l.length≠(endsL p).length->zcj [dPl p,dP l]=some (rxD "NoTelling")):=by
 have h1:=zfd hl h25 l
 have hel:=zdn hl h25
 rw [zi0]
 constructor
 ·intro q
  rw [if_pos q] at h1
  have vo:=zlW hp hl h25 l (N:=1) q (fun z hz=>by rw [l1 z hz]; decide) (fun z hz=>by rw [l1 z hz]; exact zcF (by decide)) (by omega) l2
  rw [zgn] at vo
  have e:zcK [some (dPl p),some (dP l),none,none,none,none,none,none,none]=zdt [some (dPl p),some (dP l),none,none,none,none,none,none,none]:=seqR (zn (zb rfl (zb rfl rfl)) rfl h1) (zn (zb rfl (zb rfl rfl)) rfl (za9 hl h25 l q))
  exact ⟨_,e ▸ zpy vo⟩
 ·intro q
  rw [if_neg q] at h1
  have e:zcK [some (dPl p),some (dP l),none,none,none,none,none,none,none]=_:=seqX (zn (zb rfl (zb rfl rfl)) rfl h1)
  rw [e]; rfl
theorem zc4 (s d:Int):(¬ Lot p s d->zbh [dPl p,dP l,.int s,.int d]=some (rxD "NoLot")) /\ (Lot p s d->(l.length=(endsL p).length->∃ q,zbh [dPl p,dP l,.int s,.int d]=some (dF q)) /\ (l.length≠(endsL p).length->zbh [dPl p,dP l,.int s,.int d]=some (rxD "NoTelling"))):=by
 have h0:=znx (p:=p) s d
 have h1:=zfd hl h25 l
 have hel:=zdn hl h25
 rw [zh1]
 constructor
 ·intro n
  have e:zbq [some (dPl p),some (dP l),some (.int s),some (.int d),none,none,none,none,none,none]=_:=seqX (zn (zb rfl (zb rfl (zb rfl rfl))) rfl (h0.2 n))
  rw [e]; rfl
 ·intro L
  have e:zbq [some (dPl p),some (dP l),some (.int s),some (.int d),none,none,none,none,none,none]=_:=seqR1 (zn (zb rfl (zb rfl (zb rfl rfl))) rfl (h0.1 L))
  constructor
  ·intro q
   rw [if_pos q] at h1
   have vo:=ziX hp hl h25 l (N:=1) q (fun z hz=>by rw [l1 z hz]; decide) (fun z hz=>by rw [l1 z hz]; exact zcF (by decide)) (by omega) l2 L
   rw [zfh] at vo
   have e2:zcU [some (dPl p),some (dP l),some (.int s),some (.int d),none,none,none,none,none,none]=_:=(seqG1 (zn (zb rfl (zb rfl (zb rfl rfl))) rfl (zcy L))).trans (seqG1 (zn (zb rfl (zb rfl rfl)) rfl (za9 hl h25 l q)))
   have e3:zbq [some (dPl p),some (dP l),some (.int s),some (.int d),none,none,none,none,none,none]=_:=e.trans (seqR1 (zn (zb rfl (zb rfl rfl)) rfl h1))
   rw [e2] at vo
   rw [e3]
   exact ⟨_,vo⟩
  ·intro q
   rw [if_neg q] at h1
   have e3:zbq [some (dPl p),some (dP l),some (.int s),some (.int d),none,none,none,none,none,none]=_:=e.trans (seqX (zn (zb rfl (zb rfl rfl)) rfl h1))
   rw [e3]; rfl
end
end
end MyLaw
namespace MyLaw
open PySem L2 Q1
theorem zpX {p:List (List Int)} (hp:Pl p):1<=p.length:=by
 obtain ⟨q,rfl,_⟩:=hp.ex
 simp
theorem zl1 {p:List (List Int)} {i:Nat} {δ:DS} (h:gVar i δ=some (dPl p)):gB1 dLen (gConsA (gVar i) gNilA) δ=some (.int (p.length:Nat)):=by
 refine zbE (zb h rfl) ?_
 unfold dPl
 rw [zfr,List.length_map]
theorem zny:∀ {q:List (List Int)} {r:List Int},Chn r q->∀ s∈q,s≠[]
 | [],_,_,s,h=>by cases h
 | t :: q,r,c,s,h=>by
   rcases List.mem_cons.mp h with rfl | h
   ·exact c.1.1
   ·exact zny c.2 s h
theorem zqU {p:List (List Int)} (hp:Pl p):∀ r∈p,r≠[]:=by
 obtain ⟨q,rfl,c⟩:=hp.ex
 intro r h
 rcases List.mem_cons.mp h with rfl | h
 ·exact List.cons_ne_nil _ _
 ·exact zny c r h
theorem zjY {p:List (List Int)} (hp:Pl p):0 < (endsL p).length:=by
 rcases Nat.eq_zero_or_pos (endsL p).length with z | z
 ·have:=zoN hp 0
  rw [List.length_eq_zero_iff.mp z,zgp,if_pos rfl] at this
  omega
 ·exact z
theorem zc1 {α β:Type} (enc:α->β) (l:List α) (h:0 < l.length) (m:Int):∃ a∈l,atI (l.map enc) (m % (l.length:Int))=some (enc a):=by
 have h0:=Int.emod_nonneg m (show (l.length:Int)≠0 by omega)
 have h1:=Int.emod_lt_of_pos m (show 0 < (l.length:Int) by omega)
 obtain ⟨k,hk⟩:∃ k:Nat,m % (l.length:Int)=(k:Nat):=⟨(m % (l.length:Int)).toNat,by omega⟩
 have hkl:k < l.length:=by omega
 refine ⟨l[k],List.getElem_mem hkl,?_⟩
 rw [hk]
 exact zdC (by rw [List.getElem?_map,List.getElem?_eq_getElem hkl]; rfl)
theorem zkB (a b c d:Int) (n:Int):∃ z:Int,dIx (.list [.int a,.int b,.int c,.int d]) (.int (n % 4))=some (.int z):=by
 obtain ⟨z,_,e⟩:=zc1 PyData.int [a,b,c,d] (Nat.succ_pos _) n
 exact ⟨z,e⟩
theorem znt (a b:Int) (n:Int):∃ z:Int,dIx (.list [.int a,.int b]) (.int (n % 2))=some (.int z):=by
 obtain ⟨z,_,e⟩:=zc1 PyData.int [a,b] (Nat.succ_pos _) n
 exact ⟨z,e⟩
theorem zmD (a b c d:Int×Int) (n:Int):∃ z:Int×Int,dIx (.list [dC a,dC b,dC c,dC d]) (.int (n % 4))=some (dC z):=by
 obtain ⟨z,_,e⟩:=zc1 dC [a,b,c,d] (Nat.succ_pos _) n
 exact ⟨z,e⟩
theorem ziz {a rest:DS->Option Res} {β:Type} {f:Res->Option β} {R:β->Prop} {δ:DS} (Z:DS->Prop) (h:∃ δ',a δ=some (.nx δ') /\ Z δ') (k:∀ δ',Z δ'->Gets ((rest δ').bind f) R):Gets ((gSeq a rest δ).bind f) R:=by
 obtain ⟨δ',e,z⟩:=h
 exact zG δ' e (k δ' z)
theorem zm7 {c:DS->Option Bool} {a:DS->Option Res} {δ:DS} {Z:DS->Prop} (x:Bool) (h:c δ=some x) (hz:Z δ) (ha:∃ δ',a δ=some (.nx δ') /\ Z δ'):∃ δ',gIf c a gSkip δ=some (.nx δ') /\ Z δ':=by
 cases x with
 | true=>obtain ⟨δ',e,z⟩:=ha; exact ⟨δ',zdx true h (fun _=>e) (fun z=>nomatch z),z⟩
 | false=>exact ⟨δ,ze2 h,hz⟩
theorem zlP (n:Int) (l:Nat):∃ s d:Int,zcg [.int n,.int (l:Nat)]=some (.tuple [.int s,.int d]):=by
 suffices key:Gets (zcg [.int n,.int (l:Nat)]) fun x=>∃ s d:Int,x=.tuple [.int s,.int d] by
  obtain ⟨_,e,s,d,rfl⟩:=key
  exact ⟨s,d,e⟩
 rw [zkD]
 have p30:dPow (.int 10) (.int 30)=some (.int (10 ^ 30)):=zp4 (k:=30) (by decide) (by decide)
 have m20:=Int.emod_nonneg n (show (20:Int)≠0 by decide)
 obtain ⟨s,hs⟩:∃ s:Int,s=(l:Int) + n % 20:=⟨_,rfl⟩
 obtain ⟨f,hf⟩:∃ f:Int,f=n / 40 % 10 ^ 30:=⟨_,rfl⟩
 obtain ⟨w,hw⟩:∃ w:Int,w=n / 3 % 10:=⟨_,rfl⟩
 obtain ⟨b,hb⟩:∃ b:Int,b=n / 20 % (s + 1):=⟨_,rfl⟩
 refine zG [some (.int n),some (.int (l:Nat)),some (.int s),none,none,none] (by rw [hs]; exact zJ (zj rfl (zj rfl rfl (zbw (by decide))) rfl)) ?_
 refine zG [some (.int n),some (.int (l:Nat)),some (.int s),some (.int b),none,none] (by rw [hb]; exact zJ (zj (zj rfl rfl (dd 20 (by decide) (by decide))) (zj rfl rfl rfl) (zbw (by omega)))) ?_
 refine zG [some (.int n),some (.int (l:Nat)),some (.int s),some (.int b),some (.int w),none] (by rw [hw]; exact zJ (zj (zj rfl rfl (dd 3 (by decide) (by decide))) rfl (zbw (by decide)))) ?_
 refine zG [some (.int n),some (.int (l:Nat)),some (.int s),some (.int b),some (.int w),some (.int f)] (by rw [hf]; exact zJ (zj (zj rfl rfl (dd 40 (by decide) (by decide))) (zj rfl rfl p30) (zbw (by decide)))) ?_
 clear hs hf hw hb m20 p30
 refine ziz (fun δ=>∃ s:Int,δ=[some (.int n),some (.int (l:Nat)),some (.int s),some (.int b),some (.int w),some (.int f)]) (zm7 _ (zaI (zj rfl rfl (zcX _ _))) ⟨_,rfl⟩ ?_) ?_
 ·obtain ⟨z,e⟩:=zkB ((l:Int) - 1) 201 (201 + f) (-f) (n / 30)
  exact ⟨_,zJ (zj (zA rfl) (zj (zj rfl rfl (dd 30 (by decide) (by decide))) rfl (zbw (by decide))) e),z,rfl⟩
 rintro _ ⟨s,rfl⟩
 refine ziz (fun δ=>∃ b:Int,δ=[some (.int n),some (.int (l:Nat)),some (.int s),some (.int b),some (.int w),some (.int f)]) (zm7 _ (zaI (zj rfl rfl (zcX _ _))) ⟨_,rfl⟩ ?_) ?_
 ·obtain ⟨z,e⟩:=zkB (-1) (s + 1) (s + 1 + f) (-1 - f) (n / 30)
  exact ⟨_,zJ (zj (zA rfl) (zj (zj rfl rfl (dd 30 (by decide) (by decide))) rfl (zbw (by decide))) e),z,rfl⟩
 rintro _ ⟨b,rfl⟩
 refine ziz (fun δ=>∃ s b:Int,δ=[some (.int n),some (.int (l:Nat)),some (.int s),some (.int b),some (.int w),some (.int f)]) (zm7 _ (zaI (zj rfl rfl (zcX _ _))) ⟨_,_,rfl⟩ ?_) ?_
 ·obtain ⟨z,e⟩:=znt (l:Int) 200 (n / 30)
  obtain ⟨y,e2⟩:=znt 0 z (n / 60)
  refine ⟨_,zaq [some (.int n),some (.int (l:Nat)),some (.int z),some (.int b),some (.int w),some (.int f)] (zJ (zj (zA rfl) (zj (zj rfl rfl (dd 30 (by decide) (by decide))) rfl (zbw (by decide))) e)) (zJ (zj (zA rfl) (zj (zj rfl rfl (dd 60 (by decide) (by decide))) rfl (zbw (by decide))) e2)),z,y,rfl⟩
 rintro _ ⟨s,b,rfl⟩
 refine ziz (fun δ=>∃ s b:Int,δ=[some (.int n),some (.int (l:Nat)),some (.int s),some (.int b),some (.int w),some (.int f)]) (zm7 _ (zaI (zj rfl rfl (zcX _ _))) ⟨_,_,rfl⟩ ?_) ?_
 ·exact ⟨_,zaq [some (.int n),some (.int (l:Nat)),some (.int ((l:Int) - 1)),some (.int b),some (.int w),some (.int f)] rfl rfl,_,_,rfl⟩
 rintro _ ⟨s,b,rfl⟩
 exact ret _ (zf4 rfl rfl) (.mk rfl ⟨s,b,rfl⟩)
theorem zhm {p:List (List Int)} (hp:Pl p) (hl:p.length<=24) (h25:∀ r∈p,r.length<=25) (k:Int):∃ c:Int×Int,zbi [dPl p,.int k]=some (dC c):=by
 suffices key:Gets (zbi [dPl p,.int k]) fun x=>∃ c,x=dC c by
  obtain ⟨_,e,c,rfl⟩:=key
  exact ⟨c,e⟩
 rw [zhq]
 have hpos:=zjY hp
 obtain ⟨e,_,he⟩:=zc1 dC (endsL p) hpos (k / 5)
 refine zG [some (dPl p),some (.int k),some (.list ((endsL p).map dC)),none,none,none,none] (zJ (zA (zP (zb rfl rfl) rfl (zbO hp hl h25)))) ?_
 refine zG [some (dPl p),some (.int k),some (.list ((endsL p).map dC)),some (.int (k % 5)),none,none,none] (zJ (zj rfl rfl (zbw (by decide)))) ?_
 refine zG [some (dPl p),some (.int k),some (.list ((endsL p).map dC)),some (.int (k % 5)),some (dC e),none,none] (zJ (zj rfl (zj (zj rfl rfl (dd 5 (by decide) (by decide))) (zbE (zb rfl rfl) ((zcM _).trans (by rw [List.length_map]))) (zbw (by omega))) ((zkn _ _).trans he))) ?_
 refine zdT (decide (k % 5=0)) (zaI (zj rfl rfl (zcX _ _))) (fun _=>?_) fun _=>?_
 ·rw [zhd]
  have hl1:=zpX hp
  obtain ⟨r,hr,er⟩:=zc1 dR p (by omega) (k / 5)
  obtain ⟨n,hn⟩:∃ n:Int,n=k / 5 % (p.length:Int):=⟨_,rfl⟩
  rw [<- hn] at er
  refine zG [some (dPl p),some (.int k),some (.list ((endsL p).map dC)),some (.int (k % 5)),some (dC e),some (.int n),none] (by rw [hn]; exact zJ (zj (zj rfl rfl (dd 5 (by decide) (by decide))) (zl1 rfl) (zbw (by omega)))) ?_
  rw [zhd]
  have hr0:0 < r.length:=List.length_pos_iff.mpr (zqU hp r hr)
  obtain ⟨b,_,eb⟩:=zc1 PyData.int r hr0 (k / 50)
  have ix:∀ {δ:DS},gVar 0 δ=some (dPl p)->gVar 5 δ=some (.int n)->g2 dIx (gVar 0) (gVar 5) δ=some (dR r):=fun h0 h5=>zj h0 h5 (show dIx (.tuple (p.map dR)) (.int n)=_ from er)
  refine zG [some (dPl p),some (.int k),some (.list ((endsL p).map dC)),some (.int (k % 5)),some (dC e),some (.int n),some (.int b)] (zJ (zj (ix rfl rfl) (zj (zj rfl rfl (dd 50 (by decide) (by decide))) (zbE (zb (ix rfl rfl) rfl) ((zfr _).trans (by rw [List.length_map]))) (zbw (by omega))) (show dIx (.tuple (r.map .int)) _=_ from eb))) ?_
  exact zda (dC (b,n - b)) (zf4 rfl (zj rfl rfl rfl)) (.mk rfl ⟨_,rfl⟩)
 ·rw [zeg]
  refine zdT (decide (k % 5=1)) (zaI (zj rfl rfl (zcX _ _))) (fun _=>?_) fun _=>?_
  ·obtain ⟨z,ez⟩:=zmD (e.1 + 1,e.2) (e.1,e.2 + 1) (26,0) (0,25) (k / 5)
   exact zda (dC z) (zj (zA rfl) (zj (zj rfl rfl (dd 5 (by decide) (by decide))) rfl (zbw (by decide))) ez) (.mk rfl ⟨_,rfl⟩)
  ·rw [zeg]
   exact ret (dC e) rfl (.mk rfl ⟨_,rfl⟩)
end MyLaw
namespace MyLaw
open PySem L2 Q1
section
variable {p:List (List Int)} (hp:Pl p) (hl:p.length<=24) (h25:∀ r∈p,r.length<=25) (c:Int×Int) (l:List Fr2) (l1:∀ q∈l,q.2=1) (l2:∀ q∈l,bt q.1<=100000) (s d:Int)
theorem zfv {body rest:DS->Option Res} {δ:DS} {x:Str} (h:body δ=some (.rt (rxD x))) (hx:x∈CSX):(gSeq (gTry body (handOf CSX wordX)) rest δ).bind gOut=some (wordX x):=by
 rw [zk4 (zqc h (show handOf CSX wordX x=some (wordX x) by unfold handOf; rw [if_pos hx]))]; rfl
theorem zp9 {w:Int} {body:DS->Option Res} {a b e f:D} {m:List D} (hw:decide (w < 2)=true) (h:body [some (.int w),some a,some b,some e,some f,none,none]=some (.nx [some (.int w),some a,some b,some e,some f,some (.list m),none])):
  (gSeq (gTry body (handOf CSX wordX)) (gSeq (gIf (gB (g2 dLt (gVar 0) (gC (.int (2))))) (gRet (g2 dIx (gLst (gLstN (gConsA (gC (.str "none")) (gConsA (gC (.str "")) gNilA)))) (gB1 dInt (gConsA (gIsi "list" (gVar 5)) gNilA)))) gSkip)
  (gRet (g2 dIx (gLst (gLstN (gConsA (gC (.str "none")) (gConsA (gC (.str "")) gNilA)))) (gB1 dInt (gConsA (gAndV (gIsi "tuple" (gVar 5)) (g2 dEq (gB1 dLen (gConsA (gVar 5) gNilA)) (gC (.int (2))))) gNilA))))) [some (.int w),some a,some b,some e,some f,none,none]).bind gOut=some (.str ""):=by
 rw [zcu (znQ h)]
 refine zW (zdT true (zaI (zj rfl rfl (show dLt (.int w) (.int 2)=some (.bool true) by show some (PyData.bool (decide (w < 2)))=_; rw [hw]))) (fun _=>?_) fun z=>nomatch z)
 exact zda (.str "") (zj (zA rfl) (zbE (zb (show gIsi "list" (gVar 5) _=some (.bool true) from rfl) rfl) rfl) atI1) (.mk rfl rfl)
theorem zpq {w:Int} {body:DS->Option Res} {a b e f:D} {q:Fr2} (hw:decide (w < 2)=false) (h:body [some (.int w),some a,some b,some e,some f,none,none]=some (.nx [some (.int w),some a,some b,some e,some f,some (dF q),none])):
  (gSeq (gTry body (handOf CSX wordX)) (gSeq (gIf (gB (g2 dLt (gVar 0) (gC (.int (2))))) (gRet (g2 dIx (gLst (gLstN (gConsA (gC (.str "none")) (gConsA (gC (.str "")) gNilA)))) (gB1 dInt (gConsA (gIsi "list" (gVar 5)) gNilA)))) gSkip)
  (gRet (g2 dIx (gLst (gLstN (gConsA (gC (.str "none")) (gConsA (gC (.str "")) gNilA)))) (gB1 dInt (gConsA (gAndV (gIsi "tuple" (gVar 5)) (g2 dEq (gB1 dLen (gConsA (gVar 5) gNilA)) (gC (.int (2))))) gNilA))))) [some (.int w),some a,some b,some e,some f,none,none]).bind gOut=some (.str ""):=by
 rw [zcu (znQ h)]
 refine zW (zlQ (zaI (zj rfl rfl (show dLt (.int w) (.int 2)=some (.bool false) by show some (PyData.bool (decide (w < 2)))=_; rw [hw]))) ?_)
 exact ret (.str "") (zj (zA rfl) (zbE (zb (zpa (show gIsi "tuple" (gVar 5) _=some (.bool true) from rfl) (show _=some (PyData.bool true) from rfl)) rfl) rfl) atI1) (.mk rfl rfl)
noncomputable def dueW (p:List (List Int)) (c:Int×Int) (l:List Fr2) (s d:Int) (w:Nat):Str:=by
 classical
 exact if 1 < w /\ ¬ Lot p s d then "lot" else if w % 2=0 then (if c∈endsL p then "" else "end") else if l.length=(endsL p).length then "" else "telling"
theorem zqo (w:Nat):PyData.strOk (dueW p c l s d w)=true:=by
 have k1:PyData.strOk "lot"=true:=by decide +kernel
 have k2:PyData.strOk "end"=true:=by decide +kernel
 have k3:PyData.strOk "telling"=true:=by decide +kernel
 have k4:PyData.strOk ""=true:=by decide +kernel
 unfold dueW
 repeat' split
 all_goals assumption
include hp hl h25
theorem zj2 (w:Nat):zcl [.int (w:Nat),dPl p,dC c,dP l,.tuple [.int s,.int d]]=some (.str (dueW p c l s d w)):=by
 classical
 rw [zl6]
 refine zW ?_
 obtain ⟨n,hn⟩:∃ n:Bool,n=(decide (s < (p.length:Int)) || (decide (200 < s) || (decide (d < 0) || decide (s < d)))):=⟨_,rfl⟩
 refine zG [some (.int (w:Nat)),some (dPl p),some (dC c),some (dP l),some (.tuple [.int s,.int d]),some (.bool n)] (by rw [hn]; exact zJ (zoe (zj (zj rfl rfl atI0) (zl1 rfl) rfl) (zoe (zj (zj rfl rfl atI0) rfl rfl) (zoe (zj (zj rfl rfl atI1) rfl rfl) (zj (zj rfl rfl atI1) (zj rfl rfl atI0) rfl))))) ?_
 have hL:n=true↔¬ Lot p s d:=by
  rw [hn]
  simp only [Bool.or_eq_true,decide_eq_true_eq]
  constructor
  ·rintro h ⟨h1,h2,h3,h4⟩; omega
  ·intro h
   apply Classical.byContradiction
   intro k
   exact h ⟨by omega,by omega,by omega,by omega⟩
 have hc:gAnd (gB (g2 dGt (gVar 0) (gC (.int (1))))) (gTru (gVar 5)) [some (.int (w:Nat)),some (dPl p),some (dC c),some (dP l),some (.tuple [.int s,.int d]),some (.bool n)]=some (decide (1 < w /\ ¬ Lot p s d)):=by
  have h1:gB (g2 dGt (gVar 0) (gC (.int (1)))) [some (.int (w:Nat)),some (dPl p),some (dC c),some (dP l),some (.tuple [.int s,.int d]),some (.bool n)]=some (decide ((1:Int) < (w:Nat))):=zaI (zj rfl rfl rfl)
  by_cases q:1 < w
  ·rw [decide_eq_true (show (1:Int) < (w:Nat) by omega)] at h1
   rw [znH h1 (zlp (b:=n) rfl),show n=decide (1 < w /\ ¬ Lot p s d) from ?_]
   rw [Bool.eq_iff_iff,hL,decide_eq_true_eq]
   exact ⟨fun h=>⟨q,h⟩,fun h=>h.2⟩
  ·rw [decide_eq_false (show ¬ (1:Int) < (w:Nat) by omega)] at h1
   unfold gAnd
   rw [h1,decide_eq_false fun z=>q z.1]; rfl
 refine zdT _ hc (fun h=>?_) fun h=>?_
 ·have:=of_decide_eq_true h
  exact zda (.str "lot") rfl (.mk rfl (by unfold dueW; rw [if_pos this]))
 ·have:=of_decide_eq_false h
  rw [zeg]
  have e:dueW p c l s d w=(if w % 2=0 then (if c∈endsL p then ("":Str) else "end") else if l.length=(endsL p).length then ("":Str) else "telling":Str):=by unfold dueW; rw [if_neg this]
  rw [e]
  have hc2:gB (g2 dEq (g2 dMod (gVar 0) (gC (.int (2)))) (gC (.int (0)))) [some (.int (w:Nat)),some (dPl p),some (dC c),some (dP l),some (.tuple [.int s,.int d]),some (.bool n)]=some (decide (w % 2=0)):=zaI (zj (zj rfl rfl (zbw (by decide))) rfl ((zcX _ _).trans (by rw [decide_eq_decide.mpr (show (w:Int) % 2=0↔w % 2=0 by omega)])))
  refine zdT _ hc2 (fun h=>?_) fun h=>?_
  ·rw [if_pos (of_decide_eq_true h)]
   have i1:∀ b:Bool,dInt [.bool b]=some (.int (if b=true then 1 else 0)):=fun b=>rfl
   have vin:=zkI false c (endsL p)
   by_cases q:c∈endsL p
   ·rw [if_pos q]
    rw [decide_eq_true q] at vin
    exact zda (.str "") (zj (zA rfl) (zbE (zb (zj rfl (zA (zP (zb rfl rfl) rfl (zbO hp hl h25))) vin) rfl) rfl) atI1) (.mk rfl rfl)
   ·rw [if_neg q]
    rw [decide_eq_false q] at vin
    exact zda (.str "end") (zj (zA rfl) (zbE (zb (zj rfl (zA (zP (zb rfl rfl) rfl (zbO hp hl h25))) vin) rfl) rfl) atI0) (.mk rfl rfl)
  ·rw [if_neg (of_decide_eq_false h),zeg]
   have vq:∀ b,decide (l.length=(endsL p).length)=b->g2 dEq (gB1 dLen (gConsA (gVar 3) gNilA)) (gB1 dLen (gConsA (gLst (gCallN zaj 1 (gConsA (gVar 1) gNilA))) gNilA)) [some (.int (w:Nat)),some (dPl p),some (dC c),some (dP l),some (.tuple [.int s,.int d]),some (.bool n)]=some (.bool b):=fun b hb=>zj (zbE (zb rfl rfl) (zlL l)) (zbE (zb (zA (zP (zb rfl rfl) rfl (zbO hp hl h25))) rfl) ((zcM _).trans (by rw [List.length_map]))) ((zcX _ _).trans (by rw [<- hb]; congr 2; exact decide_eq_decide.mpr (by omega)))
   by_cases q:l.length=(endsL p).length
   ·rw [if_pos q]
    exact ret (.str "") (zj (zA rfl) (zbE (zb (vq true (decide_eq_true q)) rfl) rfl) atI1) (.mk rfl rfl)
   ·rw [if_neg q]
    exact ret (.str "telling") (zj (zA rfl) (zbE (zb (vq false (decide_eq_false q)) rfl) rfl) atI0) (.mk rfl rfl)
include l1 l2
theorem zgJ (w:Nat) (hw:w < 4):zaY [.int (w:Nat),dPl p,dC c,dP l,.tuple [.int s,.int d]]=some (.str (dueW p c l s d w)):=by
 classical
 rw [zgi]
 have m1:("NoLot":Str)∈CSX:=.head _
 have m2:("NoEnd":Str)∈CSX:=.tail _ (.head _)
 have m3:("NoTelling":Str)∈CSX:=.tail _ (.tail _ (.head _))
 have w1:wordX "NoLot"=.str "lot":=rfl
 have w2:wordX "NoEnd"=.str "end":=rfl
 have w3:wordX "NoTelling"=.str "telling":=rfl
 have hif:∀ (x:Nat) {a b:DS->Option Res} {δ:DS} {r:Option Res},(w=x->a (some (.int (w:Nat)) :: δ)=r)->(w≠x->b (some (.int (w:Nat)) :: δ)=r)->gIf (gB (g2 dEq (gVar 0) (gC (.int (x:Nat))))) a b (some (.int (w:Nat)) :: δ)=r:=fun x a b δ r h1 h2=>zdx (decide (w=x)) (zaI (zj rfl rfl ((zcX _ _).trans (by rw [decide_eq_decide.mpr (show ((w:Nat):Int)=((x:Nat):Int)↔w=x by omega)])))) (fun z=>h1 (of_decide_eq_true z)) fun z=>h2 (of_decide_eq_false z)
 have hb:w=0 \/ w=1 \/ w=2 \/ w=3:=by omega
 have a4:∀ {δ:DS},gVar 4 δ=some (.tuple [.int s,.int d])->g2 dIx (gVar 4) (gC (.int 0)) δ=some (.int s) /\ g2 dIx (gVar 4) (gC (.int 1)) δ=some (.int d):=fun h=>⟨zj h rfl atI0,zj h rfl atI1⟩
 unfold dueW
 rcases hb with rfl | rfl | rfl | rfl
 ·rw [if_neg (fun z=>absurd z.1 (by decide)),if_pos rfl]
  by_cases q:c∈endsL p
  ·obtain ⟨m,e⟩:=(zku hp hl h25 c).1 q
   rw [if_pos q]
   exact zp9 rfl (hif 0 (fun _=>ziq (zn (zb rfl (zb rfl rfl)) rfl e) rfl) fun z=>absurd rfl z)
  ·rw [if_neg q,<- w2]
   exact zfv (hif 0 (fun _=>zfl (zn (zb rfl (zb rfl rfl)) rfl ((zku hp hl h25 c).2 q))) fun z=>absurd rfl z) m2
 ·rw [if_neg (fun z=>absurd z.1 (by decide)),if_neg (by decide)]
  by_cases q:l.length=(endsL p).length
  ·obtain ⟨m,e⟩:=(zk2 hp hl h25 l l1 l2).1 q
   rw [if_pos q]
   exact zp9 rfl (hif 0 (fun z=>absurd z (by decide)) fun _=>hif 1 (fun _=>ziq (zn (zb rfl (zb rfl rfl)) rfl e) rfl) fun z=>absurd rfl z)
  ·rw [if_neg q,<- w3]
   exact zfv (hif 0 (fun z=>absurd z (by decide)) fun _=>hif 1 (fun _=>zfl (zn (zb rfl (zb rfl rfl)) rfl ((zk2 hp hl h25 l l1 l2).2 q))) fun z=>absurd rfl z) m3
 ·by_cases L:Lot p s d
  ·rw [if_neg (fun z=>z.2 L),if_pos (by decide)]
   by_cases q:c∈endsL p
   ·obtain ⟨m,e⟩:=((zc0 hp hl h25 c s d).2 L).1 q
    rw [if_pos q]
    exact zpq rfl (hif 0 (fun z=>absurd z (by decide)) fun _=>hif 1 (fun z=>absurd z (by decide)) fun _=>hif 2 (fun _=>ziq (zn (zb rfl (zb rfl (zb (a4 rfl).1 (zb (a4 rfl).2 rfl)))) rfl e) rfl) fun z=>absurd rfl z)
   ·rw [if_neg q,<- w2]
    exact zfv (hif 0 (fun z=>absurd z (by decide)) fun _=>hif 1 (fun z=>absurd z (by decide)) fun _=>hif 2 (fun _=>zfl (zn (zb rfl (zb rfl (zb (a4 rfl).1 (zb (a4 rfl).2 rfl)))) rfl (((zc0 hp hl h25 c s d).2 L).2 q))) fun z=>absurd rfl z) m2
  ·rw [if_pos ⟨by decide,L⟩,<- w1]
   exact zfv (hif 0 (fun z=>absurd z (by decide)) fun _=>hif 1 (fun z=>absurd z (by decide)) fun _=>hif 2 (fun _=>zfl (zn (zb rfl (zb rfl (zb (a4 rfl).1 (zb (a4 rfl).2 rfl)))) rfl ((zc0 hp hl h25 c s d).1 L))) fun z=>absurd rfl z) m1
 ·by_cases L:Lot p s d
  ·rw [if_neg (fun z=>z.2 L),if_neg (by decide)]
   by_cases q:l.length=(endsL p).length
   ·obtain ⟨m,e⟩:=((zc4 hp hl h25 l l1 l2 s d).2 L).1 q
    rw [if_pos q]
    exact zpq rfl (hif 0 (fun z=>absurd z (by decide)) fun _=>hif 1 (fun z=>absurd z (by decide)) fun _=>hif 2 (fun z=>absurd z (by decide)) fun _=>ziq (zn (zb rfl (zb rfl (zb (a4 rfl).1 (zb (a4 rfl).2 rfl)))) rfl e) rfl)
   ·rw [if_neg q,<- w3]
    exact zfv (hif 0 (fun z=>absurd z (by decide)) fun _=>hif 1 (fun z=>absurd z (by decide)) fun _=>hif 2 (fun z=>absurd z (by decide)) fun _=>zfl (zn (zb rfl (zb rfl (zb (a4 rfl).1 (zb (a4 rfl).2 rfl)))) rfl (((zc4 hp hl h25 l l1 l2 s d).2 L).2 q))) m3
  ·rw [if_pos ⟨by decide,L⟩,<- w1]
   exact zfv (hif 0 (fun z=>absurd z (by decide)) fun _=>hif 1 (fun z=>absurd z (by decide)) fun _=>hif 2 (fun z=>absurd z (by decide)) fun _=>zfl (zn (zb rfl (zb rfl (zb (a4 rfl).1 (zb (a4 rfl).2 rfl)))) rfl ((zc4 hp hl h25 l l1 l2 s d).1 L))) m1
end
theorem zmi (ns:List Int) (h:ns.length<=63):zi5 [.list (ns.map .int)]=some (.bool true):=by
 rw [zqZ]
 refine zW ?_
 obtain ⟨u,hu⟩:∃ u:Int,u=(if (if (((ns.map PyData.int).length:Nat):Int) < 10 then (((ns.map PyData.int).length:Nat):Int) else 10) > 1 then (if (((ns.map PyData.int).length:Nat):Int) < 10 then (((ns.map PyData.int).length:Nat):Int) else 10) else 1):=⟨_,rfl⟩
 have hu2:1<=u /\ u<=10:=by rw [hu]; split <;> split <;> omega
 obtain ⟨N,hN⟩:∃ N:Nat,u=(N:Nat):=⟨u.toNat,by omega⟩
 refine zcT 0 N (fun _ δ=>∃ a b c d e f g i j,δ=[some (.list (ns.map .int)),a,b,c,d,e,f,g,i,j]) (zbZ (zb (zbE (zb rfl (zb (zbE (zb rfl (zb (zbE (zb rfl rfl) (zcM _)) rfl)) rfl) rfl)) (by rw [<- hN,hu]; rfl)) rfl) (by omega)) ⟨_,_,_,_,_,_,_,_,_,rfl⟩ ?_ ?_
 ·rintro i δ hi ⟨a,b,c,d,e,f,g,i2,j,rfl⟩
  rw [Int.zero_add]
  obtain ⟨x,hx⟩:∃ x,x=ns.getD i 0:=⟨_,rfl⟩
  obtain ⟨y,hy⟩:∃ y,y=ns.getD (i + 1) 0:=⟨_,rfl⟩
  obtain ⟨k,hk⟩:∃ k:Nat,(1:Int) + x / 3 % 7=(k:Nat) /\ 1<=k /\ k<=24:=by
   have m0:=Int.emod_nonneg (x / 3) (show (7:Int)≠0 by decide)
   have m1:=Int.emod_lt_of_pos (x / 3) (show (0:Int) < 7 by decide)
   exact ⟨(1 + x / 3 % 7).toNat,by omega,by omega,by omega⟩
  obtain ⟨_,ep,p,rfl,hp,hpl,h25⟩:=zja x k hk.2.1 hk.2.2
  have hl:p.length<=24:=by omega
  obtain ⟨ct,ec⟩:=zhm hp hl h25 y
  obtain ⟨s,t,es⟩:=zlP (y / 2) p.length
  have hel:=zdn hl h25
  have hpos:=zjY hp
  obtain ⟨z,hz,ez⟩:=zc1 PyData.int [0,1,-1,0] (Nat.succ_pos _) (y / 7)
  have hz2: -1<=z /\ z<=1:=by simp at hz; omega
  obtain ⟨M,hM⟩:∃ M:Nat,((endsL p).length:Int) + z=(M:Nat):=⟨(((endsL p).length:Int) + z).toNat,by omega⟩
  obtain ⟨l,hlq⟩:∃ l:List Fr2,l=(List.range M).map fun j:Nat=>((0 + (j:Int),1):Fr2):=⟨_,rfl⟩
  have l1:∀ q∈l,q.2=1:=fun q hq=>by
   rw [hlq] at hq
   obtain ⟨j,_,rfl⟩:=List.mem_map.mp hq
   rfl
  have l2:∀ q∈l,bt q.1<=100000:=fun q hq=>by
   rw [hlq] at hq
   obtain ⟨j,hj,rfl⟩:=List.mem_map.mp hq
   have:=List.mem_range.mp hj
   exact zbt (zcF (m:=20) (by show (0 + (j:Int)).natAbs < 2 ^ 20; omega)) (by decide)
  have e1:dAddV (.int (i:Nat)) (.int 1)=some (.int ((i + 1:Nat):Int)):=(zht _ _).trans (by push_cast; rfl)
  have ce:gComp (gRange1 (gConsA (gVar 6) gNilA)) [] (gTupD (gConsA (gVar 0) (gConsA (gC (.int (1))) gNilA))) [some (.list (ns.map .int)),some (.int (i:Nat)),some (.int x),some (dPl p),some (.int y),some (dC ct),some (.int (M:Nat)),g,i2,j]=some (l.map dF):=by
   rw [hlq]
   exact zc9 (fun k:Nat=>PyData.int (0 + k)) dF (fun j:Nat=>((0 + (j:Int),1):Fr2)) (List.range M) (zbZ (zb rfl rfl) (by omega)) (by rw [List.length_range]; omega) fun k _=>zf4 rfl rfl
  obtain ⟨δ',e2,j',rfl⟩:=zev (t:=gName' 9) (b:=gIf (gB (g2 dNe (gCall zaY 5 (gConsA (gVar 9) (gConsA (gVar 3) (gConsA (gVar 5) (gConsA (gVar 7) (gConsA (gVar 8) gNilA)))))) (gCall zcl 5 (gConsA (gVar 9) (gConsA (gVar 3) (gConsA (gVar 5) (gConsA (gVar 7) (gConsA (gVar 8) gNilA)))))))) (gRet (gC (.bool false))) gSkip) (fun k:Nat=>PyData.int (0 + k))
   (fun _ δ=>∃ j,δ=[some (.list (ns.map .int)),some (.int (i:Nat)),some (.int x),some (dPl p),some (.int y),some (dC ct),some (.int (M:Nat)),some (dP l),some (.tuple [.int s,.int t]),j]) (List.range 4) (δ:=[some (.list (ns.map .int)),some (.int (i:Nat)),some (.int x),some (dPl p),some (.int y),some (dC ct),some (.int (M:Nat)),some (dP l),some (.tuple [.int s,.int t]),j]) ⟨_,rfl⟩ (by
    rintro n w δ hw ⟨j,rfl⟩
    have hw4:w < 4:=List.mem_range.mp (List.mem_of_getElem? hw)
    rw [Int.zero_add]
    have va:=zgJ hp hl h25 ct l l1 l2 s t w hw4
    have vd:=zj2 hp hl h25 ct l s t w
    have vk:=zqo (p:=p) ct l s t w
    generalize dueW p ct l s t w=T at *
    refine ⟨_,[some (.list (ns.map .int)),some (.int (i:Nat)),some (.int x),some (dPl p),some (.int y),some (dC ct),some (.int (M:Nat)),some (dP l),some (.tuple [.int s,.int t]),some (.int (w:Nat))],rfl,?_,_,rfl⟩
    exact ze2 (zaI (zj (zn (zb rfl (zb rfl (zb rfl (zb rfl (zb rfl rfl))))) rfl va) (zn (zb rfl (zb rfl (zb rfl (zb rfl (zb rfl rfl))))) rfl vd) (zqA (c:=true) (zlk vk vk (beq_self_eq_true T))))))
  refine ⟨_,[some (.list (ns.map .int)),some (.int (i:Nat)),some (.int x),some (dPl p),some (.int y),some (dC ct),some (.int (M:Nat)),some (dP l),some (.tuple [.int s,.int t]),j'],rfl,?_,_,_,_,_,_,_,_,_,_,rfl⟩
  refine zaq [some (.list (ns.map .int)),some (.int (i:Nat)),some (.int x),c,d,e,f,g,i2,j] (by rw [hx]; exact zJ (zn (zb rfl (zb rfl rfl)) rfl (zfb ns i))) ?_
  refine zaq [some (.list (ns.map .int)),some (.int (i:Nat)),some (.int x),some (dPl p),d,e,f,g,i2,j] (zJ (zn (zb rfl (zb (zj rfl (zj (zj rfl rfl (dd 3 (by decide) (by decide))) rfl (zbw (by decide))) ((zht _ _).trans (by rw [hk.1]))) rfl)) rfl ep)) ?_
  refine zaq [some (.list (ns.map .int)),some (.int (i:Nat)),some (.int x),some (dPl p),some (.int y),e,f,g,i2,j] (by rw [hy]; exact zJ (zn (zb rfl (zb (zj rfl rfl e1) rfl)) rfl (zfb ns (i + 1)))) ?_
  refine zaq [some (.list (ns.map .int)),some (.int (i:Nat)),some (.int x),some (dPl p),some (.int y),some (dC ct),f,g,i2,j] (zJ (zn (zb rfl (zb rfl rfl)) rfl ec)) ?_
  refine zaq [some (.list (ns.map .int)),some (.int (i:Nat)),some (.int x),some (dPl p),some (.int y),some (dC ct),some (.int (M:Nat)),g,i2,j] (by rw [<- hM]; exact zJ (zj (zbE (zb (zA (zP (zb rfl rfl) rfl (zbO hp hl h25))) rfl) ((zcM _).trans (by rw [List.length_map]))) (zj (zA rfl) (zj (zj rfl rfl (dd 7 (by decide) (by decide))) rfl (zbw (by decide))) ez) (zht _ _))) ?_
  refine zaq [some (.list (ns.map .int)),some (.int (i:Nat)),some (.int x),some (dPl p),some (.int y),some (dC ct),some (.int (M:Nat)),some (dP l),i2,j] (zJ (zA ce)) ?_
  refine zaq [some (.list (ns.map .int)),some (.int (i:Nat)),some (.int x),some (dPl p),some (.int y),some (dC ct),some (.int (M:Nat)),some (dP l),some (.tuple [.int s,.int t]),j] (zJ (zn (zb (zj rfl rfl (dd 2 (by decide) (by decide))) (zb (zl1 rfl) rfl)) rfl es)) ?_
  exact znB (zbZ (n:=4) (zb rfl rfl) (by decide)) e2
 ·rintro δ' ⟨a,b,c,d,e,f,g,i,j,rfl⟩
  exact ret (.bool true) rfl (.mk rfl rfl)
end MyLaw
namespace MyLaw
open PySem L2 Q1
noncomputable abbrev zeY:Stmt:=top 12
theorem zhB:FnScope ["top","bottom","shared"] ["top","bottom"] (defScope zeY):=⟨rfl,rfl,rfl,by decide +kernel,rfl,by decide +kernel,by decide +kernel⟩
noncomputable abbrev zdg:Stmt:=top 13
theorem zf7:FnScope ["one","other","left","right"] ["one","other"] (defScope zdg):=⟨rfl,rfl,rfl,by decide +kernel,rfl,by decide +kernel,by decide +kernel⟩
noncomputable abbrev zO:Stmt:=top 14
theorem zD:FnScope ["one","other","rest","pair"] ["one","other"] (defScope zO):=⟨rfl,rfl,rfl,by decide +kernel,rfl,by decide +kernel,by decide +kernel⟩
noncomputable abbrev zeG:Stmt:=top 15
theorem zcJ:FnScope ["one","other","cut","upper","lower","many","rest"] ["one","other"] (defScope zeG):=⟨rfl,rfl,rfl,by decide +kernel,rfl,by decide +kernel,by decide +kernel⟩
noncomputable abbrev zbP:Stmt:=top 17
theorem zfm:FnScope ["plan","count","draws"] ["plan","count"] (defScope zbP):=⟨rfl,rfl,rfl,by decide +kernel,rfl,by decide +kernel,by decide +kernel⟩
noncomputable abbrev zbB:Stmt:=top 18
theorem zcW:FnScope ["plan","told","draws","place"] ["plan"] (defScope zbB):=⟨rfl,rfl,rfl,by decide +kernel,rfl,by decide +kernel,by decide +kernel⟩
noncomputable abbrev zd3:Stmt:=top 19
theorem zn4:FnScope ["plan"] ["plan"] (defScope zd3):=⟨rfl,rfl,rfl,by decide +kernel,rfl,by decide +kernel,by decide +kernel⟩
noncomputable abbrev za1:Stmt:=top 20
theorem zcv:FnScope ["plan","told","draws","place"] ["plan"] (defScope za1):=⟨rfl,rfl,rfl,by decide +kernel,rfl,by decide +kernel,by decide +kernel⟩
noncomputable abbrev zas:Stmt:=top 21
theorem zaJ:FnScope ["plan","counts","there","count"] ["plan","counts"] (defScope zas):=⟨rfl,rfl,rfl,by decide +kernel,rfl,by decide +kernel,by decide +kernel⟩
noncomputable abbrev zb7:Stmt:=top 22
theorem zlN:FnScope ["place"] ["place"] (defScope zb7):=⟨rfl,rfl,rfl,by decide +kernel,rfl,by decide +kernel,by decide +kernel⟩
noncomputable abbrev zc7:Stmt:=top 23
theorem zmU:FnScope ["count","sign"] ["count","sign"] (defScope zc7):=⟨rfl,rfl,rfl,by decide +kernel,rfl,by decide +kernel,by decide +kernel⟩
noncomputable abbrev zb6:Stmt:=top 26
theorem zlF:FnScope ["one","share"] ["one","share"] (defScope zb6):=⟨rfl,rfl,rfl,by decide +kernel,rfl,by decide +kernel,by decide +kernel⟩
noncomputable abbrev zbm:Stmt:=top 27
theorem zbX:FnScope ["bad","good","told","top","place"] ["bad","good"] (defScope zbm):=⟨rfl,rfl,rfl,by decide +kernel,rfl,by decide +kernel,by decide +kernel⟩
noncomputable abbrev zbN:Stmt:=top 28
theorem zfq:FnScope ["fractions","kept"] ["fractions"] (defScope zbN):=⟨rfl,rfl,rfl,by decide +kernel,rfl,by decide +kernel,by decide +kernel⟩
noncomputable abbrev zae:Stmt:=top 29
theorem zaT:FnScope ["fractions","common","fraction"] ["fractions"] (defScope zae):=⟨rfl,rfl,rfl,by decide +kernel,rfl,by decide +kernel,by decide +kernel⟩
noncomputable abbrev zaC:Stmt:=top 30
theorem zgQ:FnScope ["fractions","bottom"] ["fractions","bottom"] (defScope zaC):=⟨rfl,rfl,rfl,by decide +kernel,rfl,by decide +kernel,by decide +kernel⟩
noncomputable abbrev zbU:Stmt:=top 32
theorem zjJ:FnScope ["plan","count"] ["plan","count"] (defScope zbU):=⟨rfl,rfl,rfl,by decide +kernel,rfl,by decide +kernel,by decide +kernel⟩
noncomputable abbrev zaX:Stmt:=top 33
theorem zbu:FnScope ["plan","beginning","ways","count","many","led"] ["plan","beginning"] (defScope zaX):=⟨rfl,rfl,rfl,by decide +kernel,rfl,by decide +kernel,by decide +kernel⟩
noncomputable abbrev zdX:Stmt:=top 35
theorem zl0:FnScope ["plan","end"] ["plan","end"] (defScope zdX):=⟨rfl,rfl,rfl,by decide +kernel,rfl,by decide +kernel,by decide +kernel⟩
noncomputable abbrev zaQ:Stmt:=top 36
theorem zV:FnScope ["plan","numbers","ways","bottom","totals","end","top","place","fraction"] ["plan","numbers"] (defScope zaQ):=⟨rfl,rfl,rfl,by decide +kernel,rfl,by decide +kernel,by decide +kernel⟩
noncomputable abbrev zX:Stmt:=top 37
theorem zcB:FnScope ["plan","numbers"] ["plan","numbers"] (defScope zX):=⟨rfl,rfl,rfl,by decide +kernel,rfl,by decide +kernel,by decide +kernel⟩
noncomputable abbrev za5:Stmt:=top 40
theorem zeC:FnScope ["plan","end","size","bad"] ["plan","end","size","bad"] (defScope za5):=⟨rfl,rfl,rfl,by decide +kernel,rfl,by decide +kernel,by decide +kernel⟩
noncomputable abbrev za3:Stmt:=top 41
theorem zM:FnScope ["plan","numbers","size","bad","ways","bottom","total","end","top","draws"] ["plan","numbers","size","bad"] (defScope za3):=⟨rfl,rfl,rfl,by decide +kernel,rfl,by decide +kernel,by decide +kernel⟩
noncomputable abbrev zay:Stmt:=top 42
theorem zdY:FnScope ["plan","size","bad"] ["plan","size","bad"] (defScope zay):=⟨rfl,rfl,rfl,by decide +kernel,rfl,by decide +kernel,by decide +kernel⟩
noncomputable abbrev zar:Stmt:=top 43
theorem zdl:FnScope ["plan","size"] ["plan","size"] (defScope zar):=⟨rfl,rfl,rfl,by decide +kernel,rfl,by decide +kernel,by decide +kernel⟩
noncomputable abbrev zbR:Stmt:=top 44
theorem ziW:FnScope ["count","size","bad"] ["count","size","bad"] (defScope zbR):=⟨rfl,rfl,rfl,by decide +kernel,rfl,by decide +kernel,by decide +kernel⟩
noncomputable abbrev zbM:Stmt:=top 45
theorem zcS:FnScope ["number","many","told","step"] ["number","many"] (defScope zbM):=⟨rfl,rfl,rfl,by decide +kernel,rfl,by decide +kernel,by decide +kernel⟩
noncomputable abbrev zbj:Stmt:=top 47
theorem zhG:FnScope ["_law_script","_law_k"] ["_law_script","_law_k"] (defScope zbj):=⟨rfl,rfl,rfl,by decide +kernel,rfl,by decide +kernel,by decide +kernel⟩
noncomputable abbrev zax:Stmt:=top 48
theorem zbF:FnScope ["_law_cell_here","_law_base","_law_many","_law_row","_law_k"] ["_law_cell_here","_law_base","_law_many"] (defScope zax):=⟨rfl,rfl,rfl,by decide +kernel,rfl,by decide +kernel,by decide +kernel⟩
noncomputable abbrev zaU:Stmt:=top 49
theorem zb3:FnScope ["_law_cell_here","_law_base","_law_many","_law_row","_law_k","_law_number"] ["_law_cell_here","_law_base","_law_many"] (defScope zaU):=⟨rfl,rfl,rfl,by decide +kernel,rfl,by decide +kernel,by decide +kernel⟩
noncomputable abbrev zaH:Stmt:=top 50
theorem z5:FnScope ["_law_cell_here","_law_most_here","_law_rest","_law_many","_law_digits_here","_law_rows","_law_come","_law_at","_law_row"] ["_law_cell_here","_law_most_here"] (defScope zaH):=⟨rfl,rfl,rfl,by decide +kernel,rfl,by decide +kernel,by decide +kernel⟩
noncomputable abbrev zaM:Stmt:=top 52
theorem zbp:FnScope ["_law_plan_here","_law_found","_law_n","_law_on","_law_come"] ["_law_plan_here"] (defScope zaM):=⟨rfl,rfl,rfl,by decide +kernel,rfl,by decide +kernel,by decide +kernel⟩
noncomputable abbrev zbn:Stmt:=top 54
theorem zbk:FnScope ["_law_e","_law_word_here"] ["_law_e"] (defScope zbn):=⟨rfl,rfl,rfl,by decide +kernel,rfl,by decide +kernel,by decide +kernel⟩
noncomputable abbrev zaG:Stmt:=top 55
theorem zaL:FnScope ["_law_what","_law_plan_here","_law_count_here","_law_numbers","_law_lot_here","_law_found","_law_e"] ["_law_what","_law_plan_here","_law_count_here","_law_numbers","_law_lot_here"] (defScope zaG):=⟨rfl,rfl,rfl,by decide +kernel,rfl,by decide +kernel,by decide +kernel⟩
noncomputable abbrev zbT:Stmt:=top 56
theorem zao:FnScope ["_law_cell_here","_law_least","_law_size","_law_bad","_law_way","_law_far"] ["_law_cell_here","_law_least"] (defScope zbT):=⟨rfl,rfl,rfl,by decide +kernel,rfl,by decide +kernel,by decide +kernel⟩
noncomputable abbrev zaV:Stmt:=top 57
theorem zaZ:FnScope ["_law_plan_here","_law_cell_here","_law_places","_law_way","_law_end","_law_n","_law_bad"] ["_law_plan_here","_law_cell_here"] (defScope zaV):=⟨rfl,rfl,rfl,by decide +kernel,rfl,by decide +kernel,by decide +kernel⟩
noncomputable abbrev zbL:Stmt:=top 58
theorem zfe:FnScope ["_law_what","_law_plan_here","_law_count_here","_law_numbers","_law_lot_here","_law_none"] ["_law_what","_law_plan_here","_law_count_here","_law_numbers","_law_lot_here"] (defScope zbL):=⟨rfl,rfl,rfl,by decide +kernel,rfl,by decide +kernel,by decide +kernel⟩
noncomputable abbrev zd9:Stmt:=top 59
theorem zcZ:FnScope ["_law_script","_law_k","_law_cell_here","_law_plan_here","_law_more","_law_count_here","_law_many","_law_numbers","_law_lot_here","_law_what"] ["_law_script"] (defScope zd9):=⟨rfl,rfl,rfl,by decide +kernel,rfl,by decide +kernel,by decide +kernel⟩
section
variable {P:Program} {w:World} {K:PySem.W.Frag} {mg:Str->Option Value} {base:Heap}
theorem zoK (F:Df K mg "leap" zeG ["one","other"]) (B:Bs mg) (C_WINDOW:Cn mg "WINDOW" (.int (240))) (C_SHED:Cn mg "SHED" (.int (120))):Dn P w K mg base 1 "leap" ["one","other"] (spD K 2 zjW):=
 zaD [] znR F zcJ fun f cdv A outer s H E hr=>(zh (zp (zm (i:=2) zcJ.nd rfl (Or.inl rfl) (zl zaP zce (PE.sh (zla (zc (pv 0)))) (PE.sh (zd (zeN C_WINDOW))))))
  (zh (zp (zm (i:=3) zcJ.nd rfl (Or.inl rfl) (zah (za (zl zlw zo (zc (pv 0)) (zc (pv 2))) (za (zd ze) (za (zd ze) zf))))))
  (zh (zp (zm (i:=4) zcJ.nd rfl (Or.inl rfl) (zah (za (zl zlw zo (zc (pv 1)) (zc (pv 2))) (za (zd ze) (za (zd ze) zf))))))
  (zh (zeh PassesOwn.never (zK (zgy hr) zge (PE.sh (zl zlw zo (PE.sh (zz (zc (pv 4)) (PE.sh (zd ze)))) (PE.sh (zd (zeN C_SHED))))) (PE.sh (zd ze)) (nomark _)) (zh (zp (zm (i:=5) zcJ.nd rfl (Or.inl rfl) (zl zR zo (PE.sh (zz (zc (pv 3)) (PE.sh (zd ze)))) (PE.sh (zz (zc (pv 4)) (PE.sh (zd ze)))))))
  (zh (zp (zm (i:=6) zcJ.nd rfl (Or.inl rfl) (zah (za (zl zaP zce (PE.sh (zz (zc (pv 3)) (PE.sh (zd ze)))) (PE.sh (zl zL zo (zc (pv 5)) (PE.sh (zz (zc (pv 4)) (PE.sh (zd ze))))))) (za (zl zaP zce (PE.sh (zz (zc (pv 3)) (PE.sh (zd ze)))) (PE.sh (zl zL zo (zc (pv 5)) (PE.sh (zz (zc (pv 4)) (PE.sh (zd ze))))))) (za (zl zaP zce (PE.sh (zz (zc (pv 3)) (PE.sh (zd ze)))) (PE.sh (zl zL zo (zc (pv 5)) (PE.sh (zz (zc (pv 4)) (PE.sh (zd ze))))))) zf))))))
  (zh (zp (zm (i:=3) zcJ.nd rfl (Or.inl rfl) (zg (pv 4))))
  (zi (zp (zm (i:=4) zcJ.nd rfl (Or.inl rfl) (zg (pv 6)))))))))
  (zi (z6 (zah (za (zx zdz zew rfl B.abs zgu (zk (PE.sh (zl zC zw (PE.sh (zl zL zo (PE.sh (zz (zc (pv 3)) (PE.sh (zd ze)))) (zc (pv 0)))) (PE.sh (zl zL zo (PE.sh (zz (zc (pv 3)) (PE.sh (zd ze)))) (zc (pv 1)))))) zq)) (za (zx zdz zew rfl B.abs zgu (zk (PE.sh (zl zC zw (PE.sh (zl zL zo (PE.sh (zz (zc (pv 4)) (PE.sh (zd ze)))) (zc (pv 0)))) (PE.sh (zl zL zo (PE.sh (zz (zc (pv 4)) (PE.sh (zd ze)))) (zc (pv 1)))))) zq)) zf)))))))))
theorem zc2 (F:Df K mg "greatest_divisor" zO ["one","other"]) (B:Bs mg) (C_LONG:Cn mg "LONG" (.int (4000))) (D_leap:Dn P w K mg base 1 "leap" ["one","other"] (spD K 2 zjW)):Dn P w K mg base 2 "greatest_divisor" ["one","other"] (spD K 2 zQ):=
 zaD [] za8 F zD fun f cdv A outer s H E hr=>(zh (zp (zm (i:=0) zD.nd rfl (Or.inl rfl) (zx zdz zew rfl B.abs zgu (zk (zc (pv 0)) zq))))
  (zh (zp (zm (i:=1) zD.nd rfl (Or.inl rfl) (zx zdz zew rfl B.abs zgu (zk (zc (pv 1)) zq))))
  (zh (zeh PassesOwn.never (zK (zgy hr) zge (zc (pv 1)) (PE.sh (zd ze)) (nomark _)) (zh (zp (zm (i:=2) zD.nd rfl (Or.inl rfl) (zl zY zo (zc (pv 0)) (zc (pv 1)))))
  (zh (zp (zm (i:=0) zD.nd rfl (Or.inl rfl) (zg (pv 1))))
  (zh (zp (zm (i:=1) zD.nd rfl (Or.inl rfl) (zg (pv 2))))
  (zi (zaK (zK ze7 zal (PE.sh (zla (zc (pv 1)))) (PE.sh (zd (zeN C_LONG))) (nomark _)) (zh (zp (zm (i:=3) zD.nd rfl (Or.inl rfl) (zt D_leap hr (by decide) (za (zg (pv 0)) (za (zg (pv 1)) zf)))))
  (zh (zp (zm (i:=0) zD.nd rfl (Or.inl rfl) (zz (zc (pv 3)) (PE.sh (zd ze)))))
  (zi (zp (zm (i:=1) zD.nd rfl (Or.inl rfl) (zz (zc (pv 3)) (PE.sh (zd ze)))))))) zac))))))
  (zi (z6 (zg (pv 0)))))))
theorem zn7 (F:Df K mg "frac" zeY ["top","bottom"]) (B:Bs mg) (D_greatest_divisor:Dn P w K mg base 2 "greatest_divisor" ["one","other"] (spD K 2 zQ)):Dn P w K mg base 3 "frac" ["top","bottom"] (spD K 2 zbg):=
 zaD [] zjX F zhB fun f cdv A outer s H E hr=>(zh (zaK (zK (zbY hr) zbQ (zc (pv 1)) (PE.sh (zd ze)) (nomark _)) (zi zdu) zac)
  (zh (zp (zm (i:=2) zhB.nd rfl (Or.inl rfl) (zt D_greatest_divisor hr (by decide) (za (zg (pv 0)) (za (zg (pv 1)) zf)))))
  (zh (zaK (zK zgN zal (zc (pv 1)) (PE.sh (zd ze)) (nomark _)) (zi (zp (zm (i:=2) zhB.nd rfl (Or.inl rfl) (zd2 (zc (pv 2)))))) zac)
  (zi (z6 (zah (za (zl zR zo (zc (pv 0)) (zc (pv 2))) (za (zl zR zo (zc (pv 1)) (zc (pv 2))) zf))))))))
theorem zmG (F:Df K mg "times" zdg ["one","other"]) (B:Bs mg) (D_frac:Dn P w K mg base 3 "frac" ["top","bottom"] (spD K 2 zbg)):Dn P w K mg base 4 "times" ["one","other"] (spD K 2 zeV):=
 zaD [] zh9 F zf7 fun f cdv A outer s H E hr=>(zh (zp (zm (i:=2) zf7.nd rfl (Or.inl rfl) (zt D_frac hr (by decide) (za (zz (zc (pv 0)) (PE.sh (zd ze))) (za (zz (zc (pv 1)) (PE.sh (zd ze))) zf)))))
  (zh (zp (zm (i:=3) zf7.nd rfl (Or.inl rfl) (zt D_frac hr (by decide) (za (zz (zc (pv 1)) (PE.sh (zd ze))) (za (zz (zc (pv 0)) (PE.sh (zd ze))) zf)))))
  (zi (z6 (zah (za (zl zL zo (PE.sh (zz (zc (pv 2)) (PE.sh (zd ze)))) (PE.sh (zz (zc (pv 3)) (PE.sh (zd ze))))) (za (zl zL zo (PE.sh (zz (zc (pv 2)) (PE.sh (zd ze)))) (PE.sh (zz (zc (pv 3)) (PE.sh (zd ze))))) zf)))))))
theorem zjD (F:Df K mg "goes_on" zbP ["plan","count"]) (B:Bs mg):Dn P w K mg base 1 "goes_on" ["plan","count"] (spD K 2 zch):=
 zaD [] zey F zfm fun f cdv A outer s H E hr=>(zh (zp (zm (i:=2) zfm.nd rfl (Or.inl rfl) (zl zC zw (PE.sh (zz (zc (pv 1)) (PE.sh (zd ze)))) (PE.sh (zz (zc (pv 1)) (PE.sh (zd ze)))))))
  (zi (z6 (znK (zna zfX zal zgN zal (PE.sh (zd ze)) (zc (pv 2)) (PE.sh (zx zy zN rfl B.len zaa (zk (zc (pv 0)) zq)))) (zln (zdA zpH zqb (PE.sh (zz (zc (pv 1)) (PE.sh (zd ze)))) (PE.sh (zz (zc (pv 0)) (zc (pv 2)))) (by with_unfolding_all rfl)))))))
theorem zl5 (F:Df K mg "led_to" zb7 ["place"]) (B:Bs mg):Dn P w K mg base 1 "led_to" ["place"] (spN K 1 zcp):=
 zbo [] zfE F zlN fun f cdv A outer s H E hr=>(zi (zdM (zdE B.sorted B.set (PE.sh (PE.nE (zkC zfZ zf8 (PE.sh (PE.nE (zdI zcG zfJ rfl B.list zfC (zk (zc (pv 0)) zq)))) (PE.sh (PE.nE (PE.asC (zbb (defScope zb7) ["place"] [] ["bad"] ["bad"] own1 (PI.c (zbf (zg (pv 0)))) (fun _ _ _ _ _ _=>(zu (zB (i:=0) (show (["bad"]:List Str).Nodup from by decide +kernel) rfl (Or.inl rfl)))) (fun _ _ _ _ _ _=>zcc) (fun _ _ _ _ _ _=>(zl zC zw (zc (pv 0)) (PE.sh (zd ze))))))))))))))
theorem zjI (F:Df K mg "come_to" zbB ["plan"]) (B:Bs mg) (D_led_to:Dn P w K mg base 1 "led_to" ["place"] (spN K 1 zcp)):Dn P w K mg base 2 "come_to" ["plan"] (spN K 1 zb0):=
 zbo [1] zek F zcW fun f cdv A outer s H E hr=>(zh (zcd (zm (i:=1) zcW.nd rfl (Or.inl rfl) (zaw (za (zah (za (zd ze) (za (zd ze) zf))) zf))))
  (zh (za4 PassesOwn.never rfl (zmc B.enumerate (zg (pv 0))) (zct rfl (zag (zu (zB (i:=2) zcW.nd rfl (Or.inr rfl))) (zag (zu (zB (i:=3) zcW.nd rfl (Or.inl rfl))) zco)))
   (zi (zez (zai (zhK PySem.F.plainAttrs_list PySem.F.slot_list_extend PySem.F.type_list_extend zeS (pv 1) (zZ (PE.asC (zbb (defScope zbB) ["plan","told","draws","place"] [2] ["bad","draws"] ["bad"] own1 (PI.c (zbf (PE.nE (zF D_led_to hr (by decide) (za (zg (pv 3)) zf))))) (fun _ _ _ _ _ _=>(zu (zB (i:=0) (show (["bad","draws"]:List Str).Nodup from by decide +kernel) rfl (Or.inl rfl)))) (fun _ _ _ _ _ _=>zcc) (fun _ _ _ _ _ _=>(zah (za (zg (pv 0)) (za (zl zaP zce (zc (pv 1)) (zc (pv 0))) zf)))))) za2))))))
  (zi (zbz (pv 1)))))
theorem zor (F:Df K mg "ends" zd3 ["plan"]) (B:Bs mg) (D_come_to:Dn P w K mg base 2 "come_to" ["plan"] (spN K 1 zb0)) (D_goes_on:Dn P w K mg base 1 "goes_on" ["plan","count"] (spD K 2 zch)):Dn P w K mg base 3 "ends" ["plan"] (spN K 1 zaN):=
 zbo [] zkb F zn4 fun f cdv A outer s H E hr=>(zi (zdM (zbb (defScope zd3) ["plan"] [0] ["count","plan"] ["count"] own1 (PI.c (zbf (PE.nE (zF D_come_to hr (by decide) (za (zg (pv 0)) zf))))) (fun _ _ _ _ _ _=>(zu (zB (i:=0) (show (["count","plan"]:List Str).Nodup from by decide +kernel) rfl (Or.inl rfl)))) (fun _ _ _ _ _ _=>(zkd (zdU (zcA (PE.sh (zt D_goes_on hr (by decide) (za (zg (pv 1)) (za (zg (pv 0)) zf)))))))) (fun _ _ _ _ _ _=>(zg (pv 0))))))
theorem zho (F:Df K mg "drawn_on" za1 ["plan"]) (B:Bs mg):Dn P w K mg base 1 "drawn_on" ["plan"] (spN K 1 zbH):=
 zbo [1] zdK F zcv fun f cdv A outer s H E hr=>(zh (zcd (zm (i:=1) zcv.nd rfl (Or.inl rfl) (zaw zf)))
  (zh (za4 PassesOwn.never rfl (zmC B.enumerate (zg (pv 0))) (zct rfl (zag (zu (zB (i:=2) zcv.nd rfl (Or.inr rfl))) (zag (zu (zB (i:=3) zcv.nd rfl (Or.inl rfl))) zco)))
   (zi (zez (zai (zhK PySem.F.plainAttrs_list PySem.F.slot_list_extend PySem.F.type_list_extend zeS (pv 1) (zZ (PE.asC (zbb (defScope za1) ["plan","told","draws","place"] [2] ["bad","draws"] ["bad"] own1 (PI.c (zbf (zg (pv 3)))) (fun _ _ _ _ _ _=>(zu (zB (i:=0) (show (["bad","draws"]:List Str).Nodup from by decide +kernel) rfl (Or.inl rfl)))) (fun _ _ _ _ _ _=>zcc) (fun _ _ _ _ _ _=>(zah (za (zg (pv 0)) (za (zl zaP zce (zc (pv 1)) (zc (pv 0))) zf)))))) za2))))))
  (zi (zbz (pv 1)))))
theorem ze8 (F:Df K mg "check_ends" zas ["plan","counts"]) (B:Bs mg) (X_NoEnd:∃ C tl,ExC K mg "NoEnd" C VE tl "ValueError.__new__") (D_ends:Dn P w K mg base 3 "ends" ["plan"] (spN K 1 zaN)):DnR P w K mg base 4 "check_ends" ["plan","counts"] (spR K mg 2 zaB):=by
 obtain ⟨_,_,X_NoEnd⟩:=X_NoEnd; exact zcD [] zcb F zaJ fun f cdv A outer s H E hr=>(zh (zp (zm (i:=2) zaJ.nd rfl (Or.inl rfl) (PE.nE (zF D_ends hr (by decide) (za (zg (pv 0)) zf)))))
  (zi (za4 PassesOwn.leaving rfl (zbf (zg (pv 1))) (zu (zB (i:=3) zaJ.nd rfl (Or.inl rfl)))
   (zi (zaK (zK (zg1 hr) zh3 (zc (pv 3)) (zc (pv 2)) (by with_unfolding_all rfl)) (zi (zea X_NoEnd PySem.F.excBase_ValueError (by decide) PySem.F.excBase_ValueError zaO)) zac)))))
theorem zf3 (F:Df K mg "check_ends" zas ["plan","counts"]) (B:Bs mg) (D_ends:Dn P w K mg base 3 "ends" ["plan"] (spN K 1 zaN)):Dn P w K mg base 4 "check_ends" ["plan","counts"] (spD K 2 zaz):=
 zaD [] zcQ F zaJ fun f cdv A outer s H E hr=>(zh (zp (zm (i:=2) zaJ.nd rfl (Or.inl rfl) (PE.nE (zF D_ends hr (by decide) (za (zg (pv 0)) zf)))))
  (zi (za4 PassesOwn.never rfl (zbf (zg (pv 1))) (zu (zB (i:=3) zaJ.nd rfl (Or.inl rfl)))
   (zi (zaK (zK (zg1 hr) zh3 (zc (pv 3)) (zc (pv 2)) (by with_unfolding_all rfl)) (zi zdu) zac)))))
theorem zmY (F:Df K mg "after" zc7 ["count","sign"]) (B:Bs mg):Dn P w K mg base 1 "after" ["count","sign"] (spD K 2 zbK):=
 zaD [] zhT F zmU fun f cdv A outer s H E hr=>(zh (zaK (zK (zbY hr) zbQ (zc (pv 1)) (PE.sh (zbs zaO)) (nomark _)) (zi (z6 (zah (za (zl zC zw (PE.sh (zz (zc (pv 0)) (PE.sh (zd ze)))) (PE.sh (zd ze))) (za (zz (zc (pv 0)) (PE.sh (zd ze))) zf))))) zac)
  (zi (z6 (zah (za (zz (zc (pv 0)) (PE.sh (zd ze))) (za (zl zC zw (PE.sh (zz (zc (pv 0)) (PE.sh (zd ze)))) (PE.sh (zd ze))) zf))))))
theorem zjq (F:Df K mg "trimmed" zbN ["fractions"]) (B:Bs mg) {pNOUGHT:Addr} (C_NOUGHT:Cn mg "NOUGHT" (.ref pNOUGHT)) (M_NOUGHT:(pNOUGHT,[V.int (0),V.int (1)])∈cstTab):Dn P w K mg base 1 "trimmed" ["fractions"] (spN K 1 za6):=
 zbo [1] zel F zfq fun f cdv A outer s H E hr=>(zh (zcd (zm (i:=1) zfq.nd rfl (Or.inl rfl) (zdI zcG zfJ rfl B.list zfC (zk (zc (pv 0)) zq))))
  (zh (zeh PassesOwn.never (PW.pt (zh5 (zK ze7 zal (PE.sh (zx zy zN rfl B.len zaa (zk (zc (pv 1)) zq))) (PE.sh (zd ze)) (nomark _)) (zii (zK (zbY hr) zbQ (PE.sh (zz (zc (pv 1)) (PE.sh (zd2 (PE.sh (zd ze)))))) (PE.sh (zpD (zeN C_NOUGHT) M_NOUGHT (fun _=>(.cons (.int _) (.cons (.int _) .nil))))) (nomark _))))) (zi (zpF (zai (znU PySem.F.plainAttrs_list PySem.F.slot_list_pop PySem.F.type_list_pop zpR (pv 1))))))
  (zi (zbz (pv 1)))))
theorem zlc (F:Df K mg "scaled" zb6 ["one","share"]) (B:Bs mg) (D_times:Dn P w K mg base 4 "times" ["one","other"] (spD K 2 zeV)) (D_trimmed:Dn P w K mg base 1 "trimmed" ["fractions"] (spN K 1 za6)):Dn P w K mg base 5 "scaled" ["one","share"] (spN K 2 zcq):=
 zbo [] zfT F zlF fun f cdv A outer s H E hr=>(zi (zdM (zF D_trimmed hr (by decide) (za (PE.nE (PE.asC (zbb (defScope zb6) ["one","share"] [1] ["fraction","share"] ["fraction"] own1 (PI.c (zbf (zg (pv 0)))) (fun _ _ _ _ _ _=>(zu (zB (i:=0) (show (["fraction","share"]:List Str).Nodup from by decide +kernel) rfl (Or.inl rfl)))) (fun _ _ _ _ _ _=>zcc) (fun _ _ _ _ _ _=>(zt D_times hr (by decide) (za (zg (pv 0)) (za (zg (pv 1)) zf))))))) zf))))
theorem zif (F:Df K mg "of_count" zbm ["bad","good"]) (B:Bs mg) {pNOUGHT:Addr} (C_NOUGHT:Cn mg "NOUGHT" (.ref pNOUGHT)) (M_NOUGHT:(pNOUGHT,[V.int (0),V.int (1)])∈cstTab):Dn P w K mg base 1 "of_count" ["bad","good"] (spN K 2 zak):=
 zbo [2] zdL F zbX fun f cdv A outer s H E hr=>(zh (zcd (zm (i:=2) zbX.nd rfl (Or.inl rfl) (zhC (zaw (za (zpD (zeN C_NOUGHT) M_NOUGHT (fun _=>(.cons (.int _) (.cons (.int _) .nil)))) zf)) (zc (pv 0)))))
  (zh (zp (zm (i:=3) zbX.nd rfl (Or.inl rfl) (zd ze)))
  (zh (za4 PassesOwn.never rfl (zbJ B.range (za (zl zC zw (zc (pv 1)) (PE.sh (zd ze))) zf)) (zu (zB (i:=4) zbX.nd rfl (Or.inl rfl)))
   (zh (zdB (zai (zhK PySem.F.plainAttrs_list PySem.F.slot_list_append PySem.F.type_list_append zdq (pv 2) (zZ (zah (za (zg (pv 3)) (za (zd ze) zf))) za2))))
  (zi (zp (zm (i:=3) zbX.nd rfl (Or.inl rfl) (zl zR zo (PE.sh (zl zL zo (PE.sh (zd2 (zc (pv 3)))) (PE.sh (zl zaP zce (zc (pv 1)) (zc (pv 4)))))) (PE.sh (zl zC zw (zc (pv 4)) (PE.sh (zd ze))))))))))
  (zi (zbz (pv 2))))))
theorem zd6 (F:Df K mg "common_bottom" zae ["fractions"]) (B:Bs mg) (D_greatest_divisor:Dn P w K mg base 2 "greatest_divisor" ["one","other"] (spD K 2 zQ)):Dn P w K mg base 3 "common_bottom" ["fractions"] (spD K 1 zI):=
 zaD [] zb1 F zaT fun f cdv A outer s H E hr=>(zh (zp (zm (i:=1) zaT.nd rfl (Or.inl rfl) (zd ze)))
  (zh (za4 PassesOwn.never rfl (zbf (zg (pv 0))) (zu (zB (i:=2) zaT.nd rfl (Or.inl rfl)))
   (zi (zp (zm (i:=1) zaT.nd rfl (Or.inl rfl) (zl zL zo (PE.sh (zl zR zo (zc (pv 1)) (PE.sh (zt D_greatest_divisor hr (by decide) (za (zg (pv 1)) (za (zz (zc (pv 2)) (PE.sh (zd ze))) zf)))))) (PE.sh (zz (zc (pv 2)) (PE.sh (zd ze)))))))))
  (zi (z6 (zg (pv 1))))))
theorem zgX (F:Df K mg "tops_over" zaC ["fractions","bottom"]) (B:Bs mg):Dn P w K mg base 1 "tops_over" ["fractions","bottom"] (spN K 2 zab):=
 zbo [] zdb F zgQ fun f cdv A outer s H E hr=>(zi (zdM (PE.asC (zbb (defScope zaC) ["fractions","bottom"] [1] ["fraction","bottom"] ["fraction"] own1 (PI.c (zbf (zg (pv 0)))) (fun _ _ _ _ _ _=>(zu (zB (i:=0) (show (["fraction","bottom"]:List Str).Nodup from by decide +kernel) rfl (Or.inl rfl)))) (fun _ _ _ _ _ _=>zcc) (fun _ _ _ _ _ _=>(zl zL zo (PE.sh (zz (zc (pv 0)) (PE.sh (zd ze)))) (PE.sh (zl zR zo (zc (pv 1)) (PE.sh (zz (zc (pv 0)) (PE.sh (zd ze))))))))))))
theorem zgm (F:Df K mg "ways_from" zaX ["plan","beginning"]) (B:Bs mg) (D_after:Dn P w K mg base 1 "after" ["count","sign"] (spD K 2 zbK)) (D_drawn_on:Dn P w K mg base 1 "drawn_on" ["plan"] (spN K 1 zbH)):Dn P w K mg base 2 "ways_from" ["plan","beginning"] (spD K 2 zS):=
 zaD [2] zde F zbu fun f cdv A outer s H E hr=>let hu:=Nat.lt_of_le_of_lt (Nat.add_le_add_left (show 1<=64 by decide) _) hr.units
  (zh (zpf (zm (i:=2) zbu.nd rfl (Or.inl rfl) (zmP hu (zc (pv 1)) (zd ze))))
  (zh (za4 PassesOwn.never rfl (zbf (PE.nE (zF D_drawn_on hr (by decide) (za (zg (pv 0)) zf)))) (zu (zB (i:=3) zbu.nd rfl (Or.inl rfl)))
   (zh (zp (zm (i:=4) zbu.nd rfl (Or.inl rfl) (zf0 hu (zc (pv 2)) (zc (pv 3)) (zd ze))))
  (zi (za4 PassesOwn.never rfl (zbf (zah (za (zt D_after hr (by decide) (za (zg (pv 3)) (za (zbs zaO) zf))) (za (zt D_after hr (by decide) (za (zg (pv 3)) (za (zbs zaO) zf))) zf)))) (zu (zB (i:=5) zbu.nd rfl (Or.inl rfl)))
   (zi (zn3 (znW hu (pv 2) (zc (pv 5)) (zl zC zw (PE.sh (zf0 hu (zc (pv 2)) (zc (pv 5)) (zd ze))) (zc (pv 4))) (by rfl))))))))
  (zi (zbz (pv 2)))))
theorem zjd (F:Df K mg "ways_to" zbU ["plan","count"]) (B:Bs mg) (D_ways_from:Dn P w K mg base 2 "ways_from" ["plan","beginning"] (spD K 2 zS)):Dn P w K mg base 3 "ways_to" ["plan","count"] (spD K 2 zap):=
 zaD [] zet F zjJ fun f cdv A outer s H E hr=>let hu:=Nat.lt_of_le_of_lt (Nat.add_le_add_left (show 1<=64 by decide) _) hr.units
  (zi (z6 (zf0 hu (PE.sh (zt D_ways_from hr (by decide) (za (zg (pv 0)) (za (zah (za (zd ze) (za (zd ze) zf))) zf)))) (zc (pv 1)) (zd ze))))
theorem zmJ (F:Df K mg "odds" zdX ["plan","end"]) (B:Bs mg) (DR_check_ends:DnR P w K mg base 4 "check_ends" ["plan","counts"] (spR K mg 2 zaB)) (D_of_count:Dn P w K mg base 1 "of_count" ["bad","good"] (spN K 2 zak)) (D_scaled:Dn P w K mg base 5 "scaled" ["one","share"] (spN K 2 zcq)) (D_ways_to:Dn P w K mg base 3 "ways_to" ["plan","count"] (spD K 2 zap)):DnR P w K mg base 6 "odds" ["plan","end"] (spR K mg 2 zff):=by
 exact zcD [] zgc F zl0 fun f cdv A outer s H E hr=>(zh (zcn (zai (zba DR_check_ends hr (by decide) zeB (za (zg (pv 0)) (za (PE.nE (zaw (za (zg (pv 1)) zf))) zf)))))
  (zi (z6 (PE.nE (zF D_scaled hr (by decide) (za (PE.nE (zF D_of_count hr (by decide) (za (zz (zc (pv 1)) (PE.sh (zd ze))) (za (zz (zc (pv 1)) (PE.sh (zd ze))) zf)))) (za (zah (za (zt D_ways_to hr (by decide) (za (zg (pv 0)) (za (zg (pv 1)) zf))) (za (zd ze) zf))) zf)))))))
theorem zn2 (F:Df K mg "odds" zdX ["plan","end"]) (B:Bs mg) (D_check_ends:Dn P w K mg base 4 "check_ends" ["plan","counts"] (spD K 2 zaz)) (D_of_count:Dn P w K mg base 1 "of_count" ["bad","good"] (spN K 2 zak)) (D_scaled:Dn P w K mg base 5 "scaled" ["one","share"] (spN K 2 zcq)) (D_ways_to:Dn P w K mg base 3 "ways_to" ["plan","count"] (spD K 2 zap)):Dn P w K mg base 6 "odds" ["plan","end"] (spN K 2 zk3):=
 zbo [] ziy F zl0 fun f cdv A outer s H E hr=>(zh (zc3 (zai (zt D_check_ends hr (by decide) (za (zg (pv 0)) (za (PE.nE (zaw (za (zg (pv 1)) zf))) zf)))))
  (zi (zdM (zF D_scaled hr (by decide) (za (PE.nE (zF D_of_count hr (by decide) (za (zz (zc (pv 1)) (PE.sh (zd ze))) (za (zz (zc (pv 1)) (PE.sh (zd ze))) zf)))) (za (zah (za (zt D_ways_to hr (by decide) (za (zg (pv 0)) (za (zg (pv 1)) zf))) (za (zd ze) zf))) zf))))))
theorem zdP (F:Df K mg "check_telling" zX ["plan","numbers"]) (B:Bs mg) (X_NoTelling:∃ C tl,ExC K mg "NoTelling" C VE tl "ValueError.__new__") (D_ends:Dn P w K mg base 3 "ends" ["plan"] (spN K 1 zaN)):DnR P w K mg base 4 "check_telling" ["plan","numbers"] (spR K mg 2 zaf):=by
 obtain ⟨_,_,X_NoTelling⟩:=X_NoTelling; exact zcD [] zaF F zcB fun f cdv A outer s H E hr=>(zi (zaK (zK (zgy hr) zge (PE.sh (zx zy zN rfl B.len zaa (zk (zc (pv 1)) zq))) (PE.sh (zx zy zN rfl B.len zaa (zk (PE.sh (PE.nE (zF D_ends hr (by decide) (za (zg (pv 0)) zf)))) zq))) (nomark _)) (zi (zea X_NoTelling PySem.F.excBase_ValueError (by decide) PySem.F.excBase_ValueError zaO)) zac))
theorem zd8 (F:Df K mg "check_telling" zX ["plan","numbers"]) (B:Bs mg) (D_ends:Dn P w K mg base 3 "ends" ["plan"] (spN K 1 zaN)):Dn P w K mg base 4 "check_telling" ["plan","numbers"] (spD K 2 zad):=
 zaD [] zbc F zcB fun f cdv A outer s H E hr=>(zi (zaK (zK (zgy hr) zge (PE.sh (zx zy zN rfl B.len zaa (zk (zc (pv 1)) zq))) (PE.sh (zx zy zN rfl B.len zaa (zk (PE.sh (PE.nE (zF D_ends hr (by decide) (za (zg (pv 0)) zf)))) zq))) (nomark _)) (zi zdu) zac))
theorem zh0 (F:Df K mg "mean_of" zaQ ["plan","numbers"]) (B:Bs mg) (DR_check_telling:DnR P w K mg base 4 "check_telling" ["plan","numbers"] (spR K mg 2 zaf)) (D_common_bottom:Dn P w K mg base 3 "common_bottom" ["fractions"] (spD K 1 zI)) (D_ends:Dn P w K mg base 3 "ends" ["plan"] (spN K 1 zaN)) (D_frac:Dn P w K mg base 3 "frac" ["top","bottom"] (spD K 2 zbg)) (D_of_count:Dn P w K mg base 1 "of_count" ["bad","good"] (spN K 2 zak)) (D_tops_over:Dn P w K mg base 1 "tops_over" ["fractions","bottom"] (spN K 2 zab)) (D_trimmed:Dn P w K mg base 1 "trimmed" ["fractions"] (spN K 1 za6)) (D_ways_from:Dn P w K mg base 2 "ways_from" ["plan","beginning"] (spD K 2 zS)):DnR P w K mg base 5 "mean_of" ["plan","numbers"] (spR K mg 2 zcj):=by
 exact zcD [4] zcK F zV fun f cdv A outer s H E hr=>let hu:=Nat.lt_of_le_of_lt (Nat.add_le_add_left (show 1<=64 by decide) _) hr.units
  (zh (zcn (zai (zba DR_check_telling hr (by decide) zeB (za (zg (pv 0)) (za (zg (pv 1)) zf)))))
  (zh (zp (zm (i:=2) zV.nd rfl (Or.inl rfl) (zt D_ways_from hr (by decide) (za (zg (pv 0)) (za (zah (za (zd ze) (za (zd ze) zf))) zf)))))
  (zh (zp (zm (i:=3) zV.nd rfl (Or.inr rfl) (zt D_common_bottom hr (by decide) (za (zg (pv 1)) zf))))
  (zh (zcd (zm (i:=4) zV.nd rfl (Or.inl rfl) (zhC (zaw (za (zd ze) zf)) (PE.sh (zl zC zw (PE.sh (zx zy zN rfl B.len zaa (zk (zc (pv 0)) zq))) (PE.sh (zd ze)))))))
  (zh (za4 PassesOwn.leaving rfl (ziP B.zip (PE.nE (zF D_ends hr (by decide) (za (zg (pv 0)) zf))) (PE.nE (zF D_tops_over hr (by decide) (za (zg (pv 1)) (za (zg (pv 3)) zf))))) (zct rfl (zag (zu (zB (i:=5) zV.nd rfl (Or.inl rfl))) (zag (zu (zB (i:=6) zV.nd rfl (Or.inl rfl))) zco)))
   (zi (za4 PassesOwn.leaving rfl (zcN B.enumerate (PE.nE (zF D_of_count hr (by decide) (za (zz (zc (pv 5)) (PE.sh (zd ze))) (za (zz (zc (pv 5)) (PE.sh (zd ze))) zf))))) (zct rfl (zag (zu (zB (i:=7) zV.nd rfl (Or.inl rfl))) (zag (zu (zB (i:=8) zV.nd rfl (Or.inl rfl))) zco)))
   (zi (zix (zjZ (pv 4) (zc (pv 7)) zlh (PE.sh (zl zL zo (PE.sh (zl zL zo (zc (pv 6)) (PE.sh (zfM hu (zc (pv 2)) (zc (pv 5)))))) (PE.sh (zz (zc (pv 8)) (PE.sh (zd ze)))))) ziA zis))))))
  (zi (z6 (PE.nE (zF D_trimmed hr (by decide) (za (PE.nE (PE.asC (zbb (defScope zaQ) ["plan","numbers","ways","bottom","totals","end","top","place","fraction"] [3] ["total","bottom"] ["total"] own1 (zkv (zc (pv 4))) (fun _ _ _ _ _ _=>(zu (zB (i:=0) (show (["total","bottom"]:List Str).Nodup from by decide +kernel) rfl (Or.inl rfl)))) (fun _ _ _ _ _ _=>zcc) (fun _ _ _ _ _ _=>(zt D_frac hr (by decide) (za (zg (pv 0)) (za (zg (pv 1)) zf))))))) zf))))))))))
theorem zjN (F:Df K mg "mean_of" zaQ ["plan","numbers"]) (B:Bs mg) (D_check_telling:Dn P w K mg base 4 "check_telling" ["plan","numbers"] (spD K 2 zad)) (D_common_bottom:Dn P w K mg base 3 "common_bottom" ["fractions"] (spD K 1 zI)) (D_ends:Dn P w K mg base 3 "ends" ["plan"] (spN K 1 zaN)) (D_frac:Dn P w K mg base 3 "frac" ["top","bottom"] (spD K 2 zbg)) (D_of_count:Dn P w K mg base 1 "of_count" ["bad","good"] (spN K 2 zak)) (D_tops_over:Dn P w K mg base 1 "tops_over" ["fractions","bottom"] (spN K 2 zab)) (D_trimmed:Dn P w K mg base 1 "trimmed" ["fractions"] (spN K 1 za6)) (D_ways_from:Dn P w K mg base 2 "ways_from" ["plan","beginning"] (spD K 2 zS)):Dn P w K mg base 5 "mean_of" ["plan","numbers"] (spN K 2 zeF):=
 zbo [4] zdt F zV fun f cdv A outer s H E hr=>let hu:=Nat.lt_of_le_of_lt (Nat.add_le_add_left (show 1<=64 by decide) _) hr.units
  (zh (zc3 (zai (zt D_check_telling hr (by decide) (za (zg (pv 0)) (za (zg (pv 1)) zf)))))
  (zh (zp (zm (i:=2) zV.nd rfl (Or.inl rfl) (zt D_ways_from hr (by decide) (za (zg (pv 0)) (za (zah (za (zd ze) (za (zd ze) zf))) zf)))))
  (zh (zp (zm (i:=3) zV.nd rfl (Or.inr rfl) (zt D_common_bottom hr (by decide) (za (zg (pv 1)) zf))))
  (zh (zcd (zm (i:=4) zV.nd rfl (Or.inl rfl) (zhC (zaw (za (zd ze) zf)) (PE.sh (zl zC zw (PE.sh (zx zy zN rfl B.len zaa (zk (zc (pv 0)) zq))) (PE.sh (zd ze)))))))
  (zh (za4 PassesOwn.never rfl (ziP B.zip (PE.nE (zF D_ends hr (by decide) (za (zg (pv 0)) zf))) (PE.nE (zF D_tops_over hr (by decide) (za (zg (pv 1)) (za (zg (pv 3)) zf))))) (zct rfl (zag (zu (zB (i:=5) zV.nd rfl (Or.inl rfl))) (zag (zu (zB (i:=6) zV.nd rfl (Or.inl rfl))) zco)))
   (zi (za4 PassesOwn.never rfl (zcN B.enumerate (PE.nE (zF D_of_count hr (by decide) (za (zz (zc (pv 5)) (PE.sh (zd ze))) (za (zz (zc (pv 5)) (PE.sh (zd ze))) zf))))) (zct rfl (zag (zu (zB (i:=7) zV.nd rfl (Or.inl rfl))) (zag (zu (zB (i:=8) zV.nd rfl (Or.inl rfl))) zco)))
   (zi (zix (zjZ (pv 4) (zc (pv 7)) zlh (PE.sh (zl zL zo (PE.sh (zl zL zo (zc (pv 6)) (PE.sh (zfM hu (zc (pv 2)) (zc (pv 5)))))) (PE.sh (zz (zc (pv 8)) (PE.sh (zd ze)))))) ziA zis))))))
  (zi (zdM (zF D_trimmed hr (by decide) (za (PE.nE (PE.asC (zbb (defScope zaQ) ["plan","numbers","ways","bottom","totals","end","top","place","fraction"] [3] ["total","bottom"] ["total"] own1 (zkv (zc (pv 4))) (fun _ _ _ _ _ _=>(zu (zB (i:=0) (show (["total","bottom"]:List Str).Nodup from by decide +kernel) rfl (Or.inl rfl)))) (fun _ _ _ _ _ _=>zcc) (fun _ _ _ _ _ _=>(zt D_frac hr (by decide) (za (zg (pv 0)) (za (zg (pv 1)) zf))))))) zf)))))))))
theorem ze3 (F:Df K mg "check_size" zar ["plan","size"]) (B:Bs mg) (C_MOST_PIECES:Cn mg "MOST_PIECES" (.int (200))) (X_NoLot:∃ C tl,ExC K mg "NoLot" C VE tl "ValueError.__new__"):DnR P w K mg base 1 "check_size" ["plan","size"] (spR K mg 2 zby):=by
 obtain ⟨_,_,X_NoLot⟩:=X_NoLot; exact zcD [] zbA F zdl fun f cdv A outer s H E hr=>(zi (zaK (zdU (zdo zfX zal zfX zal (PE.sh (zx zy zN rfl B.len zaa (zk (zc (pv 0)) zq))) (zc (pv 1)) (PE.sh (zd (zeN C_MOST_PIECES))))) (zi (zea X_NoLot PySem.F.excBase_ValueError (by decide) PySem.F.excBase_ValueError zaO)) zac))
theorem zf6 (F:Df K mg "check_size" zar ["plan","size"]) (B:Bs mg) (C_MOST_PIECES:Cn mg "MOST_PIECES" (.int (200))):Dn P w K mg base 1 "check_size" ["plan","size"] (spD K 2 zbx):=
 zaD [] zca F zdl fun f cdv A outer s H E hr=>(zi (zaK (zdU (zdo zfX zal zfX zal (PE.sh (zx zy zN rfl B.len zaa (zk (zc (pv 0)) zq))) (zc (pv 1)) (PE.sh (zd (zeN C_MOST_PIECES))))) (zi zdu) zac))
theorem zfU (F:Df K mg "check_lot" zay ["plan","size","bad"]) (B:Bs mg) (X_NoLot:∃ C tl,ExC K mg "NoLot" C VE tl "ValueError.__new__") (DR_check_size:DnR P w K mg base 1 "check_size" ["plan","size"] (spR K mg 2 zby)):DnR P w K mg base 2 "check_lot" ["plan","size","bad"] (spR K mg 3 zaA):=by
 obtain ⟨_,_,X_NoLot⟩:=X_NoLot; exact zcD [] zbS F zdY fun f cdv A outer s H E hr=>(zh (zcn (zai (zba DR_check_size hr (by decide) zeB (za (zg (pv 0)) (za (zg (pv 1)) zf)))))
  (zi (zaK (zdU (zdo zfX zal zfX zal (PE.sh (zd ze)) (zc (pv 2)) (zc (pv 1)))) (zi (zea X_NoLot PySem.F.excBase_ValueError (by decide) PySem.F.excBase_ValueError zaO)) zac)))
theorem zgg (F:Df K mg "check_lot" zay ["plan","size","bad"]) (B:Bs mg) (D_check_size:Dn P w K mg base 1 "check_size" ["plan","size"] (spD K 2 zbx)):Dn P w K mg base 2 "check_lot" ["plan","size","bad"] (spD K 3 zaW):=
 zaD [] zcr F zdY fun f cdv A outer s H E hr=>(zh (zc3 (zai (zt D_check_size hr (by decide) (za (zg (pv 0)) (za (zg (pv 1)) zf)))))
  (zi (zaK (zdU (zdo zfX zal zfX zal (PE.sh (zd ze)) (zc (pv 2)) (zc (pv 1)))) (zi zdu) zac)))
theorem zjm (F:Df K mg "falling" zbM ["number","many"]) (B:Bs mg):Dn P w K mg base 1 "falling" ["number","many"] (spD K 2 z7):=
 zaD [] zeu F zcS fun f cdv A outer s H E hr=>(zh (zp (zm (i:=2) zcS.nd rfl (Or.inl rfl) (zd ze)))
  (zh (za4 PassesOwn.never rfl (zbJ B.range (za (zg (pv 1)) zf)) (zu (zB (i:=3) zcS.nd rfl (Or.inl rfl)))
   (zi (zp (zm (i:=2) zcS.nd rfl (Or.inl rfl) (zl zL zo (zc (pv 2)) (PE.sh (zl zaP zce (zc (pv 0)) (zc (pv 3)))))))))
  (zi (z6 (zg (pv 2))))))
theorem zi1 (F:Df K mg "choices" zbR ["count","size","bad"]) (B:Bs mg) (D_falling:Dn P w K mg base 1 "falling" ["number","many"] (spD K 2 z7)):Dn P w K mg base 2 "choices" ["count","size","bad"] (spD K 3 zaE):=
 zaD [] zeJ F ziW fun f cdv A outer s H E hr=>(zi (z6 (zl zL zo (PE.sh (zt D_falling hr (by decide) (za (zg (pv 2)) (za (zz (zc (pv 0)) (PE.sh (zd ze))) zf)))) (PE.sh (zt D_falling hr (by decide) (za (zl zaP zce (zc (pv 1)) (zc (pv 2))) (za (zz (zc (pv 0)) (PE.sh (zd ze))) zf)))))))
theorem zgt (F:Df K mg "lot_odds" za5 ["plan","end","size","bad"]) (B:Bs mg) (DR_check_ends:DnR P w K mg base 4 "check_ends" ["plan","counts"] (spR K mg 2 zaB)) (DR_check_lot:DnR P w K mg base 2 "check_lot" ["plan","size","bad"] (spR K mg 3 zaA)) (D_choices:Dn P w K mg base 2 "choices" ["count","size","bad"] (spD K 3 zaE)) (D_falling:Dn P w K mg base 1 "falling" ["number","many"] (spD K 2 z7)) (D_frac:Dn P w K mg base 3 "frac" ["top","bottom"] (spD K 2 zbg)) (D_ways_to:Dn P w K mg base 3 "ways_to" ["plan","count"] (spD K 2 zap)):DnR P w K mg base 5 "lot_odds" ["plan","end","size","bad"] (spR K mg 4 zbl):=by
 exact zcD [] zbr F zeC fun f cdv A outer s H E hr=>(zh (zcn (zai (zba DR_check_lot hr (by decide) zeB (za (zg (pv 0)) (za (zg (pv 2)) (za (zg (pv 3)) zf))))))
  (zh (zcn (zai (zba DR_check_ends hr (by decide) zeB (za (zg (pv 0)) (za (PE.nE (zaw (za (zg (pv 1)) zf))) zf)))))
  (zi (z6 (zt D_frac hr (by decide) (za (zl zL zo (PE.sh (zt D_ways_to hr (by decide) (za (zg (pv 0)) (za (zg (pv 1)) zf)))) (PE.sh (zt D_choices hr (by decide) (za (zg (pv 1)) (za (zg (pv 2)) (za (zg (pv 3)) zf)))))) (za (zt D_falling hr (by decide) (za (zg (pv 2)) (za (zl zC zw (PE.sh (zz (zc (pv 1)) (PE.sh (zd ze)))) (PE.sh (zz (zc (pv 1)) (PE.sh (zd ze))))) zf))) zf)))))))
theorem zhv (F:Df K mg "lot_odds" za5 ["plan","end","size","bad"]) (B:Bs mg) (D_check_ends:Dn P w K mg base 4 "check_ends" ["plan","counts"] (spD K 2 zaz)) (D_check_lot:Dn P w K mg base 2 "check_lot" ["plan","size","bad"] (spD K 3 zaW)) (D_choices:Dn P w K mg base 2 "choices" ["count","size","bad"] (spD K 3 zaE)) (D_falling:Dn P w K mg base 1 "falling" ["number","many"] (spD K 2 z7)) (D_frac:Dn P w K mg base 3 "frac" ["top","bottom"] (spD K 2 zbg)) (D_ways_to:Dn P w K mg base 3 "ways_to" ["plan","count"] (spD K 2 zap)):Dn P w K mg base 5 "lot_odds" ["plan","end","size","bad"] (spD K 4 zdF):=
 zaD [] zcV F zeC fun f cdv A outer s H E hr=>(zh (zc3 (zai (zt D_check_lot hr (by decide) (za (zg (pv 0)) (za (zg (pv 2)) (za (zg (pv 3)) zf))))))
  (zh (zc3 (zai (zt D_check_ends hr (by decide) (za (zg (pv 0)) (za (PE.nE (zaw (za (zg (pv 1)) zf))) zf)))))
  (zi (z6 (zt D_frac hr (by decide) (za (zl zL zo (PE.sh (zt D_ways_to hr (by decide) (za (zg (pv 0)) (za (zg (pv 1)) zf)))) (PE.sh (zt D_choices hr (by decide) (za (zg (pv 1)) (za (zg (pv 2)) (za (zg (pv 3)) zf)))))) (za (zt D_falling hr (by decide) (za (zg (pv 2)) (za (zl zC zw (PE.sh (zz (zc (pv 1)) (PE.sh (zd ze)))) (PE.sh (zz (zc (pv 1)) (PE.sh (zd ze))))) zf))) zf)))))))
theorem zhb (F:Df K mg "lot_mean" za3 ["plan","numbers","size","bad"]) (B:Bs mg) (DR_check_lot:DnR P w K mg base 2 "check_lot" ["plan","size","bad"] (spR K mg 3 zaA)) (DR_check_telling:DnR P w K mg base 4 "check_telling" ["plan","numbers"] (spR K mg 2 zaf)) (D_choices:Dn P w K mg base 2 "choices" ["count","size","bad"] (spD K 3 zaE)) (D_common_bottom:Dn P w K mg base 3 "common_bottom" ["fractions"] (spD K 1 zI)) (D_ends:Dn P w K mg base 3 "ends" ["plan"] (spN K 1 zaN)) (D_falling:Dn P w K mg base 1 "falling" ["number","many"] (spD K 2 z7)) (D_frac:Dn P w K mg base 3 "frac" ["top","bottom"] (spD K 2 zbg)) (D_tops_over:Dn P w K mg base 1 "tops_over" ["fractions","bottom"] (spN K 2 zab)) (D_ways_from:Dn P w K mg base 2 "ways_from" ["plan","beginning"] (spD K 2 zS)):DnR P w K mg base 5 "lot_mean" ["plan","numbers","size","bad"] (spR K mg 4 zbh):=by
 exact zcD [] zbq F zM fun f cdv A outer s H E hr=>let hu:=Nat.lt_of_le_of_lt (Nat.add_le_add_left (show 1<=64 by decide) _) hr.units
  (zh (zcn (zai (zba DR_check_lot hr (by decide) zeB (za (zg (pv 0)) (za (zg (pv 2)) (za (zg (pv 3)) zf))))))
  (zh (zcn (zai (zba DR_check_telling hr (by decide) zeB (za (zg (pv 0)) (za (zg (pv 1)) zf)))))
  (zh (zp (zm (i:=4) zM.nd rfl (Or.inl rfl) (zt D_ways_from hr (by decide) (za (zg (pv 0)) (za (zah (za (zd ze) (za (zd ze) zf))) zf)))))
  (zh (zp (zm (i:=5) zM.nd rfl (Or.inl rfl) (zt D_common_bottom hr (by decide) (za (zg (pv 1)) zf))))
  (zh (zp (zm (i:=6) zM.nd rfl (Or.inl rfl) (zd ze)))
  (zh (za4 PassesOwn.leaving rfl (ziP B.zip (PE.nE (zF D_ends hr (by decide) (za (zg (pv 0)) zf))) (PE.nE (zF D_tops_over hr (by decide) (za (zg (pv 1)) (za (zg (pv 5)) zf))))) (zct rfl (zag (zu (zB (i:=7) zM.nd rfl (Or.inl rfl))) (zag (zu (zB (i:=8) zM.nd rfl (Or.inl rfl))) zco)))
   (zh (zp (zm (i:=9) zM.nd rfl (Or.inl rfl) (zl zC zw (PE.sh (zz (zc (pv 7)) (PE.sh (zd ze)))) (PE.sh (zz (zc (pv 7)) (PE.sh (zd ze)))))))
  (zi (zkq (znn (i:=6) zM.nd rfl (Or.inl rfl) (PE.sh (zl zL zo (PE.sh (zl zL zo (PE.sh (zl zL zo (zc (pv 8)) (PE.sh (zfM hu (zc (pv 4)) (zc (pv 7)))))) (PE.sh (zt D_choices hr (by decide) (za (zg (pv 7)) (za (zg (pv 2)) (za (zg (pv 3)) zf))))))) (PE.sh (zt D_falling hr (by decide) (za (zl zaP zce (zc (pv 2)) (zc (pv 9))) (za (zl zaP zce (PE.sh (zx zy zN rfl B.len zaa (zk (zc (pv 0)) zq))) (zc (pv 9))) zf)))))) ziA)))))
  (zi (z6 (zt D_frac hr (by decide) (za (zg (pv 6)) (za (zl zL zo (zc (pv 5)) (PE.sh (zt D_falling hr (by decide) (za (zg (pv 2)) (za (zx zy zN rfl B.len zaa (zk (zc (pv 0)) zq)) zf))))) zf)))))))))))
theorem zhl (F:Df K mg "lot_mean" za3 ["plan","numbers","size","bad"]) (B:Bs mg) (D_check_lot:Dn P w K mg base 2 "check_lot" ["plan","size","bad"] (spD K 3 zaW)) (D_check_telling:Dn P w K mg base 4 "check_telling" ["plan","numbers"] (spD K 2 zad)) (D_choices:Dn P w K mg base 2 "choices" ["count","size","bad"] (spD K 3 zaE)) (D_common_bottom:Dn P w K mg base 3 "common_bottom" ["fractions"] (spD K 1 zI)) (D_ends:Dn P w K mg base 3 "ends" ["plan"] (spN K 1 zaN)) (D_falling:Dn P w K mg base 1 "falling" ["number","many"] (spD K 2 z7)) (D_frac:Dn P w K mg base 3 "frac" ["top","bottom"] (spD K 2 zbg)) (D_tops_over:Dn P w K mg base 1 "tops_over" ["fractions","bottom"] (spN K 2 zab)) (D_ways_from:Dn P w K mg base 2 "ways_from" ["plan","beginning"] (spD K 2 zS)):Dn P w K mg base 5 "lot_mean" ["plan","numbers","size","bad"] (spD K 4 zdW):=
 zaD [] zcU F zM fun f cdv A outer s H E hr=>let hu:=Nat.lt_of_le_of_lt (Nat.add_le_add_left (show 1<=64 by decide) _) hr.units
  (zh (zc3 (zai (zt D_check_lot hr (by decide) (za (zg (pv 0)) (za (zg (pv 2)) (za (zg (pv 3)) zf))))))
  (zh (zc3 (zai (zt D_check_telling hr (by decide) (za (zg (pv 0)) (za (zg (pv 1)) zf)))))
  (zh (zp (zm (i:=4) zM.nd rfl (Or.inl rfl) (zt D_ways_from hr (by decide) (za (zg (pv 0)) (za (zah (za (zd ze) (za (zd ze) zf))) zf)))))
  (zh (zp (zm (i:=5) zM.nd rfl (Or.inl rfl) (zt D_common_bottom hr (by decide) (za (zg (pv 1)) zf))))
  (zh (zp (zm (i:=6) zM.nd rfl (Or.inl rfl) (zd ze)))
  (zh (za4 PassesOwn.never rfl (ziP B.zip (PE.nE (zF D_ends hr (by decide) (za (zg (pv 0)) zf))) (PE.nE (zF D_tops_over hr (by decide) (za (zg (pv 1)) (za (zg (pv 5)) zf))))) (zct rfl (zag (zu (zB (i:=7) zM.nd rfl (Or.inl rfl))) (zag (zu (zB (i:=8) zM.nd rfl (Or.inl rfl))) zco)))
   (zh (zp (zm (i:=9) zM.nd rfl (Or.inl rfl) (zl zC zw (PE.sh (zz (zc (pv 7)) (PE.sh (zd ze)))) (PE.sh (zz (zc (pv 7)) (PE.sh (zd ze)))))))
  (zi (zkq (znn (i:=6) zM.nd rfl (Or.inl rfl) (PE.sh (zl zL zo (PE.sh (zl zL zo (PE.sh (zl zL zo (zc (pv 8)) (PE.sh (zfM hu (zc (pv 4)) (zc (pv 7)))))) (PE.sh (zt D_choices hr (by decide) (za (zg (pv 7)) (za (zg (pv 2)) (za (zg (pv 3)) zf))))))) (PE.sh (zt D_falling hr (by decide) (za (zl zaP zce (zc (pv 2)) (zc (pv 9))) (za (zl zaP zce (PE.sh (zx zy zN rfl B.len zaa (zk (zc (pv 0)) zq))) (zc (pv 9))) zf)))))) ziA)))))
  (zi (z6 (zt D_frac hr (by decide) (za (zg (pv 6)) (za (zl zL zo (zc (pv 5)) (PE.sh (zt D_falling hr (by decide) (za (zg (pv 2)) (za (zx zy zN rfl B.len zaa (zk (zc (pv 0)) zq)) zf))))) zf)))))))))))
theorem zhp (F:Df K mg "_law_cell" zbj ["_law_script","_law_k"]) (B:Bs mg):Dn P w K mg base 1 "_law_cell" ["_law_script","_law_k"] (spD K 2 zbG):=
 zaD [] zdH F zhG fun f cdv A outer s H E hr=>(zh (zaK (zK zgN zal (zc (pv 1)) (PE.sh (zx zy zN rfl B.len zaa (zk (zc (pv 0)) zq))) (nomark _)) (zi (z6 (zz (zc (pv 0)) (zc (pv 1))))) zac)
  (zi (z6 (zd ze))))
theorem zfQ (F:Df K mg "_law_digits" zax ["_law_cell_here","_law_base","_law_many"]) (B:Bs mg):Dn P w K mg base 1 "_law_digits" ["_law_cell_here","_law_base","_law_many"] (spN K 3 za0):=
 zbo [3] zcC F zbF fun f cdv A outer s H E hr=>(zh (zcd (zm (i:=3) zbF.nd rfl (Or.inl rfl) (zaw zf)))
  (zh (za4 PassesOwn.never rfl (zbJ B.range (za (zg (pv 2)) zf)) (zu (zB (i:=4) zbF.nd rfl (Or.inl rfl)))
   (zh (zdB (zai (zhK PySem.F.plainAttrs_list PySem.F.slot_list_append PySem.F.type_list_append zdq (pv 3) (zZ (zl zY zo (zc (pv 0)) (zc (pv 1))) za2))))
  (zi (zp (zm (i:=0) zbF.nd rfl (Or.inl rfl) (zl zR zo (zc (pv 0)) (zc (pv 1))))))))
  (zi (zbz (pv 3)))))
theorem zgO (F:Df K mg "_law_mixes" zaU ["_law_cell_here","_law_base","_law_many"]) (B:Bs mg):Dn P w K mg base 1 "_law_mixes" ["_law_cell_here","_law_base","_law_many"] (spN K 3 zbW):=
 zbo [3] zdd F zb3 fun f cdv A outer s H E hr=>(zh (zcd (zm (i:=3) zb3.nd rfl (Or.inl rfl) (zaw zf)))
  (zh (za4 PassesOwn.never rfl (zbJ B.range (za (zg (pv 2)) zf)) (zu (zB (i:=4) zb3.nd rfl (Or.inl rfl)))
   (zh (zp (zm (i:=5) zb3.nd rfl (Or.inl rfl) (zl zY zo (PE.sh (zl zC zw (PE.sh (zl zC zw (PE.sh (zl zL zo (PE.sh (zl zY zo (zc (pv 0)) (PE.sh (zd ze)))) (PE.sh (zd ze)))) (PE.sh (zl zL zo (PE.sh (zl zL zo (zc (pv 4)) (zc (pv 4)))) (PE.sh (zd ze)))))) (PE.sh (zl zL zo (zc (pv 4)) (PE.sh (zd ze)))))) (PE.sh (zd ze)))))
  (zi (zdB (zai (zhK PySem.F.plainAttrs_list PySem.F.slot_list_append PySem.F.type_list_append zdq (pv 3) (zZ (zl zY zo (PE.sh (zl zR zo (PE.sh (zl zY zo (PE.sh (zl zC zw (PE.sh (zl zL zo (zc (pv 5)) (PE.sh (zd ze)))) (zc (pv 0)))) (PE.sh (zd ze)))) (PE.sh (zd ze)))) (zc (pv 1))) za2)))))))
  (zi (zbz (pv 3)))))
theorem zhV (F:Df K mg "_law_plan" zaH ["_law_cell_here","_law_most_here"]) (B:Bs mg) (D_law_digits:Dn P w K mg base 1 "_law_digits" ["_law_cell_here","_law_base","_law_many"] (spN K 3 za0)) (D_law_mixes:Dn P w K mg base 1 "_law_mixes" ["_law_cell_here","_law_base","_law_many"] (spN K 3 zbW)):Dn P w K mg base 2 "_law_plan" ["_law_cell_here","_law_most_here"] (spD K 2 zci):=
 zaD [5] zdG F z5 fun f cdv A outer s H E hr=>(zh (zp (zm (i:=2) z5.nd rfl (Or.inl rfl) (zl zR zo (zc (pv 0)) (PE.sh (zd ze)))))
  (zh (zp (zm (i:=3) z5.nd rfl (Or.inr rfl) (zl zC zw (PE.sh (zd ze)) (PE.sh (zl zL zo (PE.sh (zd ze)) (PE.sh (zbV zcL zem rfl B.int zgK (zk (PE.sh (zdA ze7 zal (zc (pv 1)) (PE.sh (zd ze)) (nomark _))) zq))))))))
  (zh (zp (zm (i:=4) z5.nd rfl (Or.inr rfl) (PE.nE (zF D_law_mixes hr (by decide) (za (zg (pv 2)) (za (zd ze) (za (zg (pv 3)) zf)))))))
  (zh (zaK (zK zqM zal (PE.sh (zx zdz zew rfl B.abs zgu (zk (zc (pv 0)) zq))) (PE.sh (zl znA zo (PE.sh (zd ze)) (PE.sh (zd ze)))) (nomark _)) (zi (zp (zm (i:=4) z5.nd rfl (Or.inr rfl) (PE.nE (zF D_law_digits hr (by decide) (za (zg (pv 2)) (za (zd ze) (za (zg (pv 3)) zf)))))))) zac)
  (zh (zcd (zm (i:=5) z5.nd rfl (Or.inl rfl) (zaw (za (zah (za (zd ze) zf)) zf))))
  (zh (zp (zm (i:=6) z5.nd rfl (Or.inl rfl) (PE.nE (zaw (za (zd ze) (za (zd ze) zf))))))
  (zh (zp (zm (i:=7) z5.nd rfl (Or.inr rfl) (zd ze)))
  (zh (zeh PassesOwn.never (PW.pt (zh5 (zK zgN zal (PE.sh (zx zy zN rfl B.len zaa (zk (zc (pv 5)) zq))) (zc (pv 1)) (nomark _)) (zii (zK ze7 zal (PE.sh (zx zy zN rfl B.len zaa (zk (zc (pv 6)) zq))) (PE.sh (zd ze)) (nomark _))))) (zh (zp (PS.nE (zil (i:=8) (defScope zaH) ["_law_cell_here","_law_most_here","_law_rest","_law_many","_law_digits_here","_law_rows","_law_come","_law_at","_law_row"] [4,3,7] ["_law_k","_law_bad","_law_digits_here","_law_many","_law_at"] ["_law_k","_law_bad"] z5.nd rfl rfl own2 (PI.c (zcN B.enumerate (zg (pv 6)))) (fun _ _ _ _ _ _=>(zct rfl (zag (zu (zB (i:=0) (show (["_law_k","_law_bad","_law_digits_here","_law_many","_law_at"]:List Str).Nodup from by decide +kernel) rfl (Or.inl rfl))) (zag (zu (zB (i:=1) (show (["_law_k","_law_bad","_law_digits_here","_law_many","_law_at"]:List Str).Nodup from by decide +kernel) rfl (Or.inl rfl))) zco)))) (fun _ _ _ _ _ _=>(zkd (zK ze7 zal (PE.sh (zz (zc (pv 2)) (PE.sh (zl zY zo (PE.sh (zl zC zw (zc (pv 4)) (zc (pv 0)))) (zc (pv 3)))))) (PE.sh (zd ze)) (nomark _)))) (fun _ _ _ _ _ _=>(zg (pv 1))))))
  (zh (zp (zm (i:=7) z5.nd rfl (Or.inr rfl) (zl zC zw (zc (pv 7)) (PE.sh (zx zy zN rfl B.len zaa (zk (zc (pv 6)) zq))))))
  (zh (zaK (zK ze7 zal (PE.sh (zl zY zo (zc (pv 0)) (PE.sh (zd ze)))) (PE.sh (zd ze)) (nomark _)) (zi (zp (zm (i:=8) z5.nd rfl (Or.inl rfl) (PE.nE (zp1 (zc (pv 6)) (ziF (PE.sh (zz (zc (pv 4)) (PE.sh (zl zY zo (zc (pv 7)) (zc (pv 3))))))) (ziF (PE.sh (zx (zgq rfl) zlS rfl B.max znq (zk (PE.sh (zd ze)) (zk (PE.sh (zl zaP zce (PE.sh (zx zy zN rfl B.len zaa (zk (zc (pv 6)) zq))) (PE.sh (zz (zc (pv 4)) (PE.sh (zl zY zo (PE.sh (zl zC zw (zc (pv 7)) (PE.sh (zd ze)))) (zc (pv 3)))))))) zq)))))))))) zac)
  (zh (zp (zm (i:=6) z5.nd rfl (Or.inl rfl) (PE.nE (zdE B.sorted B.set (PE.sh (PE.nE (zkC zfZ zf8 (zc (pv 8)) (PE.sh (PE.nE (PE.asC (zbb (defScope zaH) ["_law_cell_here","_law_most_here","_law_rest","_law_many","_law_digits_here","_law_rows","_law_come","_law_at","_law_row"] [] ["_law_bad"] ["_law_bad"] own1 (PI.c (zbf (zg (pv 8)))) (fun _ _ _ _ _ _=>(zu (zB (i:=0) (show (["_law_bad"]:List Str).Nodup from by decide +kernel) rfl (Or.inl rfl)))) (fun _ _ _ _ _ _=>zcc) (fun _ _ _ _ _ _=>(zl zC zw (zc (pv 0)) (PE.sh (zd ze)))))))))))))))
  (zi (zaK (zK ze7 zal (PE.sh (zx zy zN rfl B.len zaa (zk (zc (pv 8)) zq))) (PE.sh (zd ze)) (nomark _)) (zi (zdB (zai (zhK PySem.F.plainAttrs_list PySem.F.slot_list_append PySem.F.type_list_append zdq (pv 5) (zZ (zbV zdp zgl rfl B.tuple zf2 (zk (zc (pv 8)) zq)) za2))))) zac)))))))
  (zi (z6 (zbV zdp zgl rfl B.tuple zf2 (zk (zc (pv 5)) zq))))))))))))
theorem zic (F:Df K mg "_law_ends" zaM ["_law_plan_here"]) (B:Bs mg):Dn P w K mg base 1 "_law_ends" ["_law_plan_here"] (spN K 1 zaj):=
 zbo [1] zdD F zbp fun f cdv A outer s H E hr=>(zh (zcd (zm (i:=1) zbp.nd rfl (Or.inl rfl) (zaw zf)))
  (zh (za4 PassesOwn.never rfl (zky B.range (za (zd ze) (za (zl zC zw (PE.sh (zx zy zN rfl B.len zaa (zk (zc (pv 0)) zq))) (PE.sh (zd ze))) zf))) (zu (zB (i:=2) zbp.nd rfl (Or.inr rfl)))
   (zh (zp (zm (i:=3) zbp.nd rfl (Or.inr rfl) (zah zf)))
  (zh (zaK (zK zgN zal (zc (pv 2)) (PE.sh (zx zy zN rfl B.len zaa (zk (zc (pv 0)) zq))) (nomark _)) (zi (zp (zm (i:=3) zbp.nd rfl (Or.inr rfl) (zz (zc (pv 0)) (zc (pv 2)))))) zac)
  (zh (zp (zm (i:=4) zbp.nd rfl (Or.inl rfl) (PE.nE (zdE B.sorted B.set (PE.sh (PE.nE (zkC zfZ zf8 (PE.sh (PE.nE (zdI zcG zfJ rfl B.list zfC (zk (PE.sh (zz (zc (pv 0)) (PE.sh (zl zaP zce (zc (pv 2)) (PE.sh (zd ze)))))) zq)))) (PE.sh (PE.nE (PE.asC (zbb (defScope zaM) ["_law_plan_here","_law_found","_law_n","_law_on","_law_come"] [] ["_law_bad"] ["_law_bad"] own1 (PI.c (zbf (zz (zc (pv 0)) (PE.sh (zl zaP zce (zc (pv 2)) (PE.sh (zd ze))))))) (fun _ _ _ _ _ _=>(zu (zB (i:=0) (show (["_law_bad"]:List Str).Nodup from by decide +kernel) rfl (Or.inl rfl)))) (fun _ _ _ _ _ _=>zcc) (fun _ _ _ _ _ _=>(zl zC zw (zc (pv 0)) (PE.sh (zd ze)))))))))))))))
  (zi (zez (zai (zhK PySem.F.plainAttrs_list PySem.F.slot_list_extend PySem.F.type_list_extend zeS (pv 1) (zZ (zbb (defScope zaM) ["_law_plan_here","_law_found","_law_n","_law_on","_law_come"] [2,3] ["_law_bad","_law_n","_law_on"] ["_law_bad"] own1 (PI.c (zbf (zg (pv 4)))) (fun _ _ _ _ _ _=>(zu (zB (i:=0) (show (["_law_bad","_law_n","_law_on"]:List Str).Nodup from by decide +kernel) rfl (Or.inl rfl)))) (fun _ _ _ _ _ _=>(zkd (zK zjV zls (zc (pv 0)) (zc (pv 2)) (by with_unfolding_all rfl)))) (fun _ _ _ _ _ _=>(zah (za (zg (pv 0)) (za (zl zaP zce (zc (pv 1)) (zc (pv 0))) zf))))) za2)))))))))
  (zi (zbz (pv 1)))))
theorem zgY (F:Df K mg "_law_word" zbn ["_law_e"]) (B:Bs mg) (CT:ClTs K mg CSX TSX) (zVE:mg "ValueError"=none) (kVE:ClT K CSX "ValueError" (.type "ValueError")):DnW P w K mg base 1 "_law_word" ["_law_e"] (fun y=>spD K 1 (zck y)):=by
 refine zo6 [] zfi F zbk fun y f cdv A outer s H hr hy=>?_
 refine zh ?_ ?_
 ·exact (zp (zm (i:=1) zbk.nd rfl (Or.inl rfl) (zbs zaO)))
 refine zh ?_ ?_
 ·exact (zaK (zcA (PE.sh (zhw CSX TSX CT (.head _) B.isinstance (zc (pv 0))))) (zi (zp (zm (i:=1) zbk.nd rfl (Or.inl rfl) (zl zC zw (zc (pv 1)) (PE.sh (zbs zaO)))))) zac)
 refine zh ?_ ?_
 ·exact (zaK (zcA (PE.sh (zhw CSX TSX CT (.tail _ (.head _)) B.isinstance (zc (pv 0))))) (zi (zp (zm (i:=1) zbk.nd rfl (Or.inl rfl) (zl zC zw (zc (pv 1)) (PE.sh (zbs zaO)))))) zac)
 refine zh ?_ ?_
 ·exact (zaK (zcA (PE.sh (zhw CSX TSX CT (.tail _ (.tail _ (.head _))) B.isinstance (zc (pv 0))))) (zi (zp (zm (i:=1) zbk.nd rfl (Or.inl rfl) (zl zC zw (zc (pv 1)) (PE.sh (zbs zaO)))))) zac)
 refine zh ?_ ?_
 ·exact (zaK (PW.pt (zp8 (zcA (PE.sh (zni CSX TSX CT (.tail _ (.tail _ (.tail _ (.head _)))) (.tail _ (.tail _ (.tail _ (.tail _ (.head _))))) (.tail _ (.tail _ (.tail _ (.tail _ (.tail _ (.head _)))))) B.isinstance (zc (pv 0))))) (zqw (zdU (zcA (PE.sh (zle CSX B.isinstance (zc (pv 0)) (zhA rfl zVE zqN (v:=.ty "ValueError") rfl) (fun _ r=>r) kVE))))))) (zi (zp (zm (i:=1) zbk.nd rfl (Or.inl rfl) (zl zC zw (zc (pv 1)) (PE.sh (zbs zaO)))))) zac)
 exact zi (z6 (zg (pv 1)))
theorem zfy (F:Df K mg "_law_answer" zaG ["_law_what","_law_plan_here","_law_count_here","_law_numbers","_law_lot_here"]) (B:Bs mg) {cL:Addr} (mL:mg "LotError"=some (.ref cL)) (CE:ClEs K mg cL CSX) (DW_law_word:DnW P w K mg base 1 "_law_word" ["_law_e"] (fun y=>spD K 1 (zck y))) (DR_lot_mean:DnR P w K mg base 5 "lot_mean" ["plan","numbers","size","bad"] (spR K mg 4 zbh)) (DR_lot_odds:DnR P w K mg base 5 "lot_odds" ["plan","end","size","bad"] (spR K mg 4 zbl)) (DR_mean_of:DnR P w K mg base 5 "mean_of" ["plan","numbers"] (spR K mg 2 zcj)) (DR_odds:DnR P w K mg base 6 "odds" ["plan","end"] (spR K mg 2 zff)):Dn P w K mg base 7 "_law_answer" ["_law_what","_law_plan_here","_law_count_here","_law_numbers","_law_lot_here"] (spD K 5 zaY):=
 zaD [] zcO F zaL fun f cdv A outer s H E hr=>(zh (zqv (i:=6) (gs:=zd0) (hand:=handOf CSX wordX) (fun pins0 E=>(zi (zaK (zK (zbY hr) zbQ (zc (pv 0)) (PE.sh (zd ze)) (nomark _)) (zi (zfD (zm (i:=5) zaL.nd rfl (Or.inl rfl) (zba DR_odds hr (by decide) zfG (za (zg (pv 1)) (za (zg (pv 2)) zf)))))) (zi (zaK (zK (zbY hr) zbQ (zc (pv 0)) (PE.sh (zd ze)) (nomark _)) (zi (zfD (zm (i:=5) zaL.nd rfl (Or.inl rfl) (zba DR_mean_of hr (by decide) zfG (za (zg (pv 1)) (za (zg (pv 3)) zf)))))) (zi (zaK (zK (zbY hr) zbQ (zc (pv 0)) (PE.sh (zd ze)) (nomark _)) (zi (zfD (zm (i:=5) zaL.nd rfl (Or.inl rfl) (zba DR_lot_odds hr (by decide) zfG (za (zg (pv 1)) (za (zg (pv 2)) (za (zz (zc (pv 4)) (PE.sh (zd ze))) (za (zz (zc (pv 4)) (PE.sh (zd ze))) zf)))))))) (zi (zfD (zm (i:=5) zaL.nd rfl (Or.inl rfl) (zba DR_lot_mean hr (by decide) zfG (za (zg (pv 1)) (za (zg (pv 3)) (za (zz (zc (pv 4)) (PE.sh (zd ze))) (za (zz (zc (pv 4)) (PE.sh (zd ze))) zf))))))))))))))) (fun a=>(zi (z6 (zml (G:=zck) (y:=a) DW_law_word (hr.markX _) (by decide) rfl (za (zg (pv 6)) zf))))) (fun c d h=>CE c (zjG h)) zfB mL zaL.nd)
  (zh (zaK (zK zgN zal (zc (pv 0)) (PE.sh (zd ze)) (nomark _)) (zi (z6 (zz (PE.sh (PE.nE (zaw (za (zbs zaO) (za (zbs zaO) zf))))) (PE.sh (zbV zcL zem rfl B.int zgK (zk (PE.sh (znI "list" B.isinstance (zc (pv 5)) (zhA rfl B.list zfC (v:=.ty "list") rfl))) zq)))))) zac)
  (zi (z6 (zz (PE.sh (PE.nE (zaw (za (zbs zaO) (za (zbs zaO) zf))))) (PE.sh (zbV zcL zem rfl B.int zgK (zk (PE.sh (znK (znI "tuple" B.isinstance (zc (pv 5)) (zhA rfl B.tuple zf2 (v:=.ty "tuple") rfl)) (zln (zdA (zbY hr) zbQ (PE.sh (zx zy zN rfl B.len zaa (zk (zc (pv 5)) zq))) (PE.sh (zd ze)) (nomark _))))) zq))))))))
theorem zjw (F:Df K mg "_law_lot" zbT ["_law_cell_here","_law_least"]) (B:Bs mg):Dn P w K mg base 1 "_law_lot" ["_law_cell_here","_law_least"] (spD K 2 zcg):=
 zaD [] zeK F zao fun f cdv A outer s H E hr=>(zh (zp (zm (i:=2) zao.nd rfl (Or.inl rfl) (zl zC zw (zc (pv 1)) (PE.sh (zl zY zo (zc (pv 0)) (PE.sh (zd ze)))))))
  (zh (zp (zm (i:=3) zao.nd rfl (Or.inl rfl) (zl zY zo (PE.sh (zl zR zo (zc (pv 0)) (PE.sh (zd ze)))) (PE.sh (zl zC zw (zc (pv 2)) (PE.sh (zd ze)))))))
  (zh (zp (zm (i:=4) zao.nd rfl (Or.inl rfl) (zl zY zo (PE.sh (zl zR zo (zc (pv 0)) (PE.sh (zd ze)))) (PE.sh (zd ze)))))
  (zh (zp (zm (i:=5) zao.nd rfl (Or.inl rfl) (zl zY zo (PE.sh (zl zR zo (zc (pv 0)) (PE.sh (zd ze)))) (PE.sh (zl znA zo (PE.sh (zd ze)) (PE.sh (zd ze)))))))
  (zh (zaK (zK (zbY hr) zbQ (zc (pv 4)) (PE.sh (zd ze)) (nomark _)) (zi (zp (zm (i:=2) zao.nd rfl (Or.inl rfl) (zz (PE.sh (PE.nE (zaw (za (zl zaP zce (zc (pv 1)) (PE.sh (zd ze))) (za (zd ze) (za (zl zC zw (PE.sh (zd ze)) (zc (pv 5))) (za (zd2 (zc (pv 5))) zf))))))) (PE.sh (zl zY zo (PE.sh (zl zR zo (zc (pv 0)) (PE.sh (zd ze)))) (PE.sh (zd ze)))))))) zac)
  (zh (zaK (zK (zbY hr) zbQ (zc (pv 4)) (PE.sh (zd ze)) (nomark _)) (zi (zp (zm (i:=3) zao.nd rfl (Or.inl rfl) (zz (PE.sh (PE.nE (zaw (za (zd2 (PE.sh (zd ze))) (za (zl zC zw (zc (pv 2)) (PE.sh (zd ze))) (za (zl zC zw (PE.sh (zl zC zw (zc (pv 2)) (PE.sh (zd ze)))) (zc (pv 5))) (za (zl zaP zce (PE.sh (zd2 (PE.sh (zd ze)))) (zc (pv 5))) zf))))))) (PE.sh (zl zY zo (PE.sh (zl zR zo (zc (pv 0)) (PE.sh (zd ze)))) (PE.sh (zd ze)))))))) zac)
  (zh (zaK (zK (zbY hr) zbQ (zc (pv 4)) (PE.sh (zd ze)) (nomark _)) (zh (zp (zm (i:=2) zao.nd rfl (Or.inl rfl) (zz (PE.sh (PE.nE (zaw (za (zg (pv 1)) (za (zd ze) zf))))) (PE.sh (zl zY zo (PE.sh (zl zR zo (zc (pv 0)) (PE.sh (zd ze)))) (PE.sh (zd ze)))))))
  (zi (zp (zm (i:=3) zao.nd rfl (Or.inl rfl) (zz (PE.sh (PE.nE (zaw (za (zd ze) (za (zg (pv 2)) zf))))) (PE.sh (zl zY zo (PE.sh (zl zR zo (zc (pv 0)) (PE.sh (zd ze)))) (PE.sh (zd ze))))))))) zac)
  (zh (zaK (zK (zbY hr) zbQ (zc (pv 4)) (PE.sh (zd ze)) (nomark _)) (zh (zp (zm (i:=2) zao.nd rfl (Or.inl rfl) (zl zaP zce (zc (pv 1)) (PE.sh (zd ze)))))
  (zi (zp (zm (i:=3) zao.nd rfl (Or.inl rfl) (zd2 (PE.sh (zd ze))))))) zac)
  (zi (z6 (zah (za (zg (pv 2)) (za (zg (pv 3)) zf)))))))))))))
theorem zhf (F:Df K mg "_law_count" zaV ["_law_plan_here","_law_cell_here"]) (B:Bs mg) (D_law_ends:Dn P w K mg base 1 "_law_ends" ["_law_plan_here"] (spN K 1 zaj)):Dn P w K mg base 2 "_law_count" ["_law_plan_here","_law_cell_here"] (spD K 2 zbi):=
 zaD [] zdh F zaZ fun f cdv A outer s H E hr=>(zh (zp (zm (i:=2) zaZ.nd rfl (Or.inl rfl) (PE.nE (zF D_law_ends hr (by decide) (za (zg (pv 0)) zf)))))
  (zh (zp (zm (i:=3) zaZ.nd rfl (Or.inl rfl) (zl zY zo (zc (pv 1)) (PE.sh (zd ze)))))
  (zh (zp (zm (i:=4) zaZ.nd rfl (Or.inl rfl) (zz (zc (pv 2)) (PE.sh (zl zY zo (PE.sh (zl zR zo (zc (pv 1)) (PE.sh (zd ze)))) (PE.sh (zx zy zN rfl B.len zaa (zk (zc (pv 2)) zq))))))))
  (zh (zaK (zK (zbY hr) zbQ (zc (pv 3)) (PE.sh (zd ze)) (nomark _)) (zh (zp (zm (i:=5) zaZ.nd rfl (Or.inl rfl) (zl zY zo (PE.sh (zl zR zo (zc (pv 1)) (PE.sh (zd ze)))) (PE.sh (zx zy zN rfl B.len zaa (zk (zc (pv 0)) zq))))))
  (zh (zp (zm (i:=6) zaZ.nd rfl (Or.inl rfl) (zz (PE.sh (zz (zc (pv 0)) (zc (pv 5)))) (PE.sh (zl zY zo (PE.sh (zl zR zo (zc (pv 1)) (PE.sh (zd ze)))) (PE.sh (zx zy zN rfl B.len zaa (zk (PE.sh (zz (zc (pv 0)) (zc (pv 5)))) zq))))))))
  (zi (z6 (zah (za (zg (pv 6)) (za (zl zaP zce (zc (pv 5)) (zc (pv 6))) zf))))))) zac)
  (zh (zaK (zK (zbY hr) zbQ (zc (pv 3)) (PE.sh (zd ze)) (nomark _)) (zi (z6 (zz (PE.sh (PE.nE (zaw (za (zah (za (zl zC zw (PE.sh (zz (zc (pv 4)) (PE.sh (zd ze)))) (PE.sh (zd ze))) (za (zz (zc (pv 4)) (PE.sh (zd ze))) zf))) (za (zah (za (zz (zc (pv 4)) (PE.sh (zd ze))) (za (zl zC zw (PE.sh (zz (zc (pv 4)) (PE.sh (zd ze)))) (PE.sh (zd ze))) zf))) (za (zah (za (zd ze) (za (zd ze) zf))) (za (zah (za (zd ze) (za (zd ze) zf))) zf))))))) (PE.sh (zl zY zo (PE.sh (zl zR zo (zc (pv 1)) (PE.sh (zd ze)))) (PE.sh (zd ze))))))) zac)
  (zi (z6 (zg (pv 4)))))))))
theorem zjL (F:Df K mg "_law_due" zbL ["_law_what","_law_plan_here","_law_count_here","_law_numbers","_law_lot_here"]) (B:Bs mg) (D_law_ends:Dn P w K mg base 1 "_law_ends" ["_law_plan_here"] (spN K 1 zaj)):Dn P w K mg base 2 "_law_due" ["_law_what","_law_plan_here","_law_count_here","_law_numbers","_law_lot_here"] (spD K 5 zcl):=
 zaD [] zen F zfe fun f cdv A outer s H E hr=>(zh (zp (zm (i:=5) zfe.nd rfl (Or.inl rfl) (zoQ (zdA zgN zal (PE.sh (zz (zc (pv 4)) (PE.sh (zd ze)))) (PE.sh (zx zy zN rfl B.len zaa (zk (zc (pv 1)) zq))) (nomark _)) (zoQ (zdA ze7 zal (PE.sh (zz (zc (pv 4)) (PE.sh (zd ze)))) (PE.sh (zd ze)) (nomark _)) (zoQ (zdA zgN zal (PE.sh (zz (zc (pv 4)) (PE.sh (zd ze)))) (PE.sh (zd ze)) (nomark _)) (zln (zdA ze7 zal (PE.sh (zz (zc (pv 4)) (PE.sh (zd ze)))) (PE.sh (zz (zc (pv 4)) (PE.sh (zd ze)))) (nomark _))))))))
  (zh (zaK (PW.pt (zh5 (zK ze7 zal (zc (pv 0)) (PE.sh (zd ze)) (nomark _)) (zii (zcA (zc (pv 5)))))) (zi (z6 (zbs zaO))) zac)
  (zh (zaK (zK (zbY hr) zbQ (PE.sh (zl zY zo (zc (pv 0)) (PE.sh (zd ze)))) (PE.sh (zd ze)) (nomark _)) (zi (z6 (zz (PE.sh (PE.nE (zaw (za (zbs zaO) (za (zbs zaO) zf))))) (PE.sh (zbV zcL zem rfl B.int zgK (zk (PE.sh (zdA (zp0 hr) zh3 (zc (pv 2)) (PE.sh (PE.nE (zF D_law_ends hr (by decide) (za (zg (pv 1)) zf)))) (by with_unfolding_all rfl))) zq)))))) zac)
  (zi (z6 (zz (PE.sh (PE.nE (zaw (za (zbs zaO) (za (zbs zaO) zf))))) (PE.sh (zbV zcL zem rfl B.int zgK (zk (PE.sh (zdA (zbY hr) zbQ (PE.sh (zx zy zN rfl B.len zaa (zk (zc (pv 3)) zq))) (PE.sh (zx zy zN rfl B.len zaa (zk (PE.sh (PE.nE (zF D_law_ends hr (by decide) (za (zg (pv 1)) zf)))) zq))) (nomark _))) zq)))))))))
theorem zqd {f:Addr} {fd:FuncData} (F:Fun K "law" "law" zd9 f fd) (B:Bs mg) (D_law_answer:Dn P w K mg base 7 "_law_answer" ["_law_what","_law_plan_here","_law_count_here","_law_numbers","_law_lot_here"] (spD K 5 zaY)) (D_law_cell:Dn P w K mg base 1 "_law_cell" ["_law_script","_law_k"] (spD K 2 zbG)) (D_law_count:Dn P w K mg base 2 "_law_count" ["_law_plan_here","_law_cell_here"] (spD K 2 zbi)) (D_law_due:Dn P w K mg base 2 "_law_due" ["_law_what","_law_plan_here","_law_count_here","_law_numbers","_law_lot_here"] (spD K 5 zcl)) (D_law_ends:Dn P w K mg base 1 "_law_ends" ["_law_plan_here"] (spN K 1 zaj)) (D_law_lot:Dn P w K mg base 1 "_law_lot" ["_law_cell_here","_law_least"] (spD K 2 zcg)) (D_law_plan:Dn P w K mg base 2 "_law_plan" ["_law_cell_here","_law_most_here"] (spD K 2 zci)):FnOk P w K mg base CX0 8 f fd ["_law_script"] (spD K 1 zi5):=
 zq4 [] zoo F zcZ fun f cdv A outer s H E hr=>(zh (za4 PassesOwn.never rfl (zbJ B.range (za (zx (zgq rfl) zlS rfl B.max znq (zk (PE.sh (zd ze)) (zk (PE.sh (zx (zjR rfl) zoZ rfl B.min zqm (zk (PE.sh (zd ze)) (zk (PE.sh (zx zy zN rfl B.len zaa (zk (zc (pv 0)) zq))) zq)))) zq))) zf)) (zu (zB (i:=1) zcZ.nd rfl (Or.inl rfl)))
   (zh (zp (zm (i:=2) zcZ.nd rfl (Or.inl rfl) (zt D_law_cell hr (by decide) (za (zg (pv 0)) (za (zg (pv 1)) zf)))))
  (zh (zp (zm (i:=3) zcZ.nd rfl (Or.inl rfl) (zt D_law_plan hr (by decide) (za (zg (pv 2)) (za (zl zC zw (PE.sh (zd ze)) (PE.sh (zl zY zo (PE.sh (zl zR zo (zc (pv 2)) (PE.sh (zd ze)))) (PE.sh (zd ze))))) zf)))))
  (zh (zp (zm (i:=4) zcZ.nd rfl (Or.inl rfl) (zt D_law_cell hr (by decide) (za (zg (pv 0)) (za (zl zC zw (zc (pv 1)) (PE.sh (zd ze))) zf)))))
  (zh (zp (zm (i:=5) zcZ.nd rfl (Or.inl rfl) (zt D_law_count hr (by decide) (za (zg (pv 3)) (za (zg (pv 4)) zf)))))
  (zh (zp (zm (i:=6) zcZ.nd rfl (Or.inl rfl) (zl zC zw (PE.sh (zx zy zN rfl B.len zaa (zk (PE.sh (PE.nE (zF D_law_ends hr (by decide) (za (zg (pv 3)) zf)))) zq))) (PE.sh (zz (PE.sh (PE.nE (zaw (za (zd ze) (za (zd ze) (za (zd2 (PE.sh (zd ze))) (za (zd ze) zf))))))) (PE.sh (zl zY zo (PE.sh (zl zR zo (zc (pv 4)) (PE.sh (zd ze)))) (PE.sh (zd ze)))))))))
  (zh (zp (PS.nE (PS.asC (zil (i:=7) (defScope zd9) ["_law_script","_law_k","_law_cell_here","_law_plan_here","_law_more","_law_count_here","_law_many","_law_numbers","_law_lot_here","_law_what"] [] ["_law_j"] ["_law_j"] zcZ.nd rfl rfl own1 (PI.c (zbJ B.range (za (zg (pv 6)) zf))) (fun _ _ _ _ _ _=>(zu (zB (i:=0) (show (["_law_j"]:List Str).Nodup from by decide +kernel) rfl (Or.inl rfl)))) (fun _ _ _ _ _ _=>zcc) (fun _ _ _ _ _ _=>(zah (za (zg (pv 0)) (za (zd ze) zf))))))))
  (zh (zp (zm (i:=8) zcZ.nd rfl (Or.inl rfl) (zt D_law_lot hr (by decide) (za (zl zR zo (zc (pv 4)) (PE.sh (zd ze))) (za (zx zy zN rfl B.len zaa (zk (zc (pv 3)) zq)) zf)))))
  (zi (za4 PassesOwn.never rfl (zbJ B.range (za (zd ze) zf)) (zu (zB (i:=9) zcZ.nd rfl (Or.inl rfl)))
   (zi (zaK (zK (zgy hr) zge (PE.sh (zt D_law_answer hr (by decide) (za (zg (pv 9)) (za (zg (pv 3)) (za (zg (pv 5)) (za (zg (pv 7)) (za (zg (pv 8)) zf))))))) (PE.sh (zt D_law_due hr (by decide) (za (zg (pv 9)) (za (zg (pv 3)) (za (zg (pv 5)) (za (zg (pv 7)) (za (zg (pv 8)) zf))))))) (nomark _)) (zi (z6 (zpW zpL))) zac))))))))))))
  (zi (z6 (zpW zpL))))
end
end MyLaw
namespace MyLaw
open PySem L2 Q1
structure QF (K:PySem.W.Frag) (n:Str) (st:Stmt) (f:Addr) (od an:Option Addr) (sl:Array (Option Value)) (oc kV dc pm cd ct:Value):Prop where
 a:PySem.W.nsIn K mainGlobals n=some (some (.ref f))
 l:K.lookup f=some ⟨oc,od,.func (PySem.W.fnOf n n (defArgs st) (defBody st) (defScope st) .none kV dc pm an cd ct),sl⟩
 c:PySem.W.codeIn K cd n=true
 k:PySem.W.keepIn K (.ref f)=true
theorem zj5 {us:List Value} {n:Nat} (h:us.length=n + 1):∃ a r,us=a :: r /\ r.length=n:=by cases us with | nil=>cases h | cons a r=>exact ⟨a,r,rfl,Nat.succ.inj h⟩
theorem ze6 (us:List Value) (h:us.length=1):∃ a0,us=[a0]:=by obtain ⟨a,r,rfl,g⟩:=zj5 h; rw [List.length_eq_zero_iff.mp g]; exact ⟨a,rfl⟩
theorem zb2 (us:List Value) (h:us.length=2):∃ a0 a1,us=[a0,a1]:=by obtain ⟨a,r,rfl,g⟩:=zj5 h; obtain ⟨a0,rfl⟩:=ze6 r g; exact ⟨a,a0,rfl⟩
theorem zkW (us:List Value) (h:us.length=3):∃ a0 a1 a2,us=[a0,a1,a2]:=by obtain ⟨a,r,rfl,g⟩:=zj5 h; obtain ⟨a0,a1,rfl⟩:=zb2 r g; exact ⟨a,a0,a1,rfl⟩
theorem zoW (us:List Value) (h:us.length=4):∃ a0 a1 a2 a3,us=[a0,a1,a2,a3]:=by obtain ⟨a,r,rfl,g⟩:=zj5 h; obtain ⟨a0,a1,a2,rfl⟩:=zkW r g; exact ⟨a,a0,a1,a2,rfl⟩
theorem zqG (us:List Value) (h:us.length=5):∃ a0 a1 a2 a3 a4,us=[a0,a1,a2,a3,a4]:=by obtain ⟨a,r,rfl,g⟩:=zj5 h; obtain ⟨a0,a1,a2,a3,rfl⟩:=zoW r g; exact ⟨a,a0,a1,a2,a3,rfl⟩
section
variable {K:PySem.W.Frag} {mg:Str->Option Value} {f:Addr} {fd:FuncData}
theorem zok (F:Fun K "frac" "frac" zeY f fd) (m:mg "frac"=some (.ref f)):Df K mg "frac" zeY ["top","bottom"]:=⟨f,fd,F,m,F.binds fun _ _ _ _ _ _ us hl=>by obtain ⟨a0,a1,rfl⟩:=zb2 us hl; rfl⟩
theorem zmF (F:Fun K "times" "times" zdg f fd) (m:mg "times"=some (.ref f)):Df K mg "times" zdg ["one","other"]:=⟨f,fd,F,m,F.binds fun _ _ _ _ _ _ us hl=>by obtain ⟨a0,a1,rfl⟩:=zb2 us hl; rfl⟩
theorem zc5 (F:Fun K "greatest_divisor" "greatest_divisor" zO f fd) (m:mg "greatest_divisor"=some (.ref f)):Df K mg "greatest_divisor" zO ["one","other"]:=⟨f,fd,F,m,F.binds fun _ _ _ _ _ _ us hl=>by obtain ⟨a0,a1,rfl⟩:=zb2 us hl; rfl⟩
theorem zoD (F:Fun K "leap" "leap" zeG f fd) (m:mg "leap"=some (.ref f)):Df K mg "leap" zeG ["one","other"]:=⟨f,fd,F,m,F.binds fun _ _ _ _ _ _ us hl=>by obtain ⟨a0,a1,rfl⟩:=zb2 us hl; rfl⟩
theorem zjt (F:Fun K "goes_on" "goes_on" zbP f fd) (m:mg "goes_on"=some (.ref f)):Df K mg "goes_on" zbP ["plan","count"]:=⟨f,fd,F,m,F.binds fun _ _ _ _ _ _ us hl=>by obtain ⟨a0,a1,rfl⟩:=zb2 us hl; rfl⟩
theorem zjx (F:Fun K "come_to" "come_to" zbB f fd) (m:mg "come_to"=some (.ref f)):Df K mg "come_to" zbB ["plan"]:=⟨f,fd,F,m,F.binds fun _ _ _ _ _ _ us hl=>by obtain ⟨a0,rfl⟩:=ze6 us hl; rfl⟩
theorem zoy (F:Fun K "ends" "ends" zd3 f fd) (m:mg "ends"=some (.ref f)):Df K mg "ends" zd3 ["plan"]:=⟨f,fd,F,m,F.binds fun _ _ _ _ _ _ us hl=>by obtain ⟨a0,rfl⟩:=ze6 us hl; rfl⟩
theorem zhX (F:Fun K "drawn_on" "drawn_on" za1 f fd) (m:mg "drawn_on"=some (.ref f)):Df K mg "drawn_on" za1 ["plan"]:=⟨f,fd,F,m,F.binds fun _ _ _ _ _ _ us hl=>by obtain ⟨a0,rfl⟩:=ze6 us hl; rfl⟩
theorem zfY (F:Fun K "check_ends" "check_ends" zas f fd) (m:mg "check_ends"=some (.ref f)):Df K mg "check_ends" zas ["plan","counts"]:=⟨f,fd,F,m,F.binds fun _ _ _ _ _ _ us hl=>by obtain ⟨a0,a1,rfl⟩:=zb2 us hl; rfl⟩
theorem zjU (F:Fun K "led_to" "led_to" zb7 f fd) (m:mg "led_to"=some (.ref f)):Df K mg "led_to" zb7 ["place"]:=⟨f,fd,F,m,F.binds fun _ _ _ _ _ _ us hl=>by obtain ⟨a0,rfl⟩:=ze6 us hl; rfl⟩
theorem znd (F:Fun K "after" "after" zc7 f fd) (m:mg "after"=some (.ref f)):Df K mg "after" zc7 ["count","sign"]:=⟨f,fd,F,m,F.binds fun _ _ _ _ _ _ us hl=>by obtain ⟨a0,a1,rfl⟩:=zb2 us hl; rfl⟩
theorem zkQ (F:Fun K "scaled" "scaled" zb6 f fd) (m:mg "scaled"=some (.ref f)):Df K mg "scaled" zb6 ["one","share"]:=⟨f,fd,F,m,F.binds fun _ _ _ _ _ _ us hl=>by obtain ⟨a0,a1,rfl⟩:=zb2 us hl; rfl⟩
theorem zhu (F:Fun K "of_count" "of_count" zbm f fd) (m:mg "of_count"=some (.ref f)):Df K mg "of_count" zbm ["bad","good"]:=⟨f,fd,F,m,F.binds fun _ _ _ _ _ _ us hl=>by obtain ⟨a0,a1,rfl⟩:=zb2 us hl; rfl⟩
theorem zjO (F:Fun K "trimmed" "trimmed" zbN f fd) (m:mg "trimmed"=some (.ref f)):Df K mg "trimmed" zbN ["fractions"]:=⟨f,fd,F,m,F.binds fun _ _ _ _ _ _ us hl=>by obtain ⟨a0,rfl⟩:=ze6 us hl; rfl⟩
theorem zd7 (F:Fun K "common_bottom" "common_bottom" zae f fd) (m:mg "common_bottom"=some (.ref f)):Df K mg "common_bottom" zae ["fractions"]:=⟨f,fd,F,m,F.binds fun _ _ _ _ _ _ us hl=>by obtain ⟨a0,rfl⟩:=ze6 us hl; rfl⟩
theorem zg0 (F:Fun K "tops_over" "tops_over" zaC f fd) (m:mg "tops_over"=some (.ref f)):Df K mg "tops_over" zaC ["fractions","bottom"]:=⟨f,fd,F,m,F.binds fun _ _ _ _ _ _ us hl=>by obtain ⟨a0,a1,rfl⟩:=zb2 us hl; rfl⟩
theorem zjB (F:Fun K "ways_to" "ways_to" zbU f fd) (m:mg "ways_to"=some (.ref f)):Df K mg "ways_to" zbU ["plan","count"]:=⟨f,fd,F,m,F.binds fun _ _ _ _ _ _ us hl=>by obtain ⟨a0,a1,rfl⟩:=zb2 us hl; rfl⟩
theorem zgh (F:Fun K "ways_from" "ways_from" zaX f fd) (m:mg "ways_from"=some (.ref f)):Df K mg "ways_from" zaX ["plan","beginning"]:=⟨f,fd,F,m,F.binds fun _ _ _ _ _ _ us hl=>by obtain ⟨a0,a1,rfl⟩:=zb2 us hl; rfl⟩
theorem zoR (F:Fun K "odds" "odds" zdX f fd) (m:mg "odds"=some (.ref f)):Df K mg "odds" zdX ["plan","end"]:=⟨f,fd,F,m,F.binds fun _ _ _ _ _ _ us hl=>by obtain ⟨a0,a1,rfl⟩:=zb2 us hl; rfl⟩
theorem zjk (F:Fun K "mean_of" "mean_of" zaQ f fd) (m:mg "mean_of"=some (.ref f)):Df K mg "mean_of" zaQ ["plan","numbers"]:=⟨f,fd,F,m,F.binds fun _ _ _ _ _ _ us hl=>by obtain ⟨a0,a1,rfl⟩:=zb2 us hl; rfl⟩
theorem zd5 (F:Fun K "check_telling" "check_telling" zX f fd) (m:mg "check_telling"=some (.ref f)):Df K mg "check_telling" zX ["plan","numbers"]:=⟨f,fd,F,m,F.binds fun _ _ _ _ _ _ us hl=>by obtain ⟨a0,a1,rfl⟩:=zb2 us hl; rfl⟩
theorem zie (F:Fun K "lot_odds" "lot_odds" za5 f fd) (m:mg "lot_odds"=some (.ref f)):Df K mg "lot_odds" za5 ["plan","end","size","bad"]:=⟨f,fd,F,m,F.binds fun _ _ _ _ _ _ us hl=>by obtain ⟨a0,a1,a2,a3,rfl⟩:=zoW us hl; rfl⟩
theorem zhx (F:Fun K "lot_mean" "lot_mean" za3 f fd) (m:mg "lot_mean"=some (.ref f)):Df K mg "lot_mean" za3 ["plan","numbers","size","bad"]:=⟨f,fd,F,m,F.binds fun _ _ _ _ _ _ us hl=>by obtain ⟨a0,a1,a2,a3,rfl⟩:=zoW us hl; rfl⟩
theorem zgd (F:Fun K "check_lot" "check_lot" zay f fd) (m:mg "check_lot"=some (.ref f)):Df K mg "check_lot" zay ["plan","size","bad"]:=⟨f,fd,F,m,F.binds fun _ _ _ _ _ _ us hl=>by obtain ⟨a0,a1,a2,rfl⟩:=zkW us hl; rfl⟩
theorem zfI (F:Fun K "check_size" "check_size" zar f fd) (m:mg "check_size"=some (.ref f)):Df K mg "check_size" zar ["plan","size"]:=⟨f,fd,F,m,F.binds fun _ _ _ _ _ _ us hl=>by obtain ⟨a0,a1,rfl⟩:=zb2 us hl; rfl⟩
theorem ziY (F:Fun K "choices" "choices" zbR f fd) (m:mg "choices"=some (.ref f)):Df K mg "choices" zbR ["count","size","bad"]:=⟨f,fd,F,m,F.binds fun _ _ _ _ _ _ us hl=>by obtain ⟨a0,a1,a2,rfl⟩:=zkW us hl; rfl⟩
theorem zi7 (F:Fun K "falling" "falling" zbM f fd) (m:mg "falling"=some (.ref f)):Df K mg "falling" zbM ["number","many"]:=⟨f,fd,F,m,F.binds fun _ _ _ _ _ _ us hl=>by obtain ⟨a0,a1,rfl⟩:=zb2 us hl; rfl⟩
theorem zhz (F:Fun K "_law_cell" "_law_cell" zbj f fd) (m:mg "_law_cell"=some (.ref f)):Df K mg "_law_cell" zbj ["_law_script","_law_k"]:=⟨f,fd,F,m,F.binds fun _ _ _ _ _ _ us hl=>by obtain ⟨a0,a1,rfl⟩:=zb2 us hl; rfl⟩
theorem zf5 (F:Fun K "_law_digits" "_law_digits" zax f fd) (m:mg "_law_digits"=some (.ref f)):Df K mg "_law_digits" zax ["_law_cell_here","_law_base","_law_many"]:=⟨f,fd,F,m,F.binds fun _ _ _ _ _ _ us hl=>by obtain ⟨a0,a1,a2,rfl⟩:=zkW us hl; rfl⟩
theorem zg2 (F:Fun K "_law_mixes" "_law_mixes" zaU f fd) (m:mg "_law_mixes"=some (.ref f)):Df K mg "_law_mixes" zaU ["_law_cell_here","_law_base","_law_many"]:=⟨f,fd,F,m,F.binds fun _ _ _ _ _ _ us hl=>by obtain ⟨a0,a1,a2,rfl⟩:=zkW us hl; rfl⟩
theorem zhH (F:Fun K "_law_plan" "_law_plan" zaH f fd) (m:mg "_law_plan"=some (.ref f)):Df K mg "_law_plan" zaH ["_law_cell_here","_law_most_here"]:=⟨f,fd,F,m,F.binds fun _ _ _ _ _ _ us hl=>by obtain ⟨a0,a1,rfl⟩:=zb2 us hl; rfl⟩
theorem zhY (F:Fun K "_law_ends" "_law_ends" zaM f fd) (m:mg "_law_ends"=some (.ref f)):Df K mg "_law_ends" zaM ["_law_plan_here"]:=⟨f,fd,F,m,F.binds fun _ _ _ _ _ _ us hl=>by obtain ⟨a0,rfl⟩:=ze6 us hl; rfl⟩
theorem zhy (F:Fun K "_law_word" "_law_word" zbn f fd) (m:mg "_law_word"=some (.ref f)):Df K mg "_law_word" zbn ["_law_e"]:=⟨f,fd,F,m,F.binds fun _ _ _ _ _ _ us hl=>by obtain ⟨a0,rfl⟩:=ze6 us hl; rfl⟩
theorem zfW (F:Fun K "_law_answer" "_law_answer" zaG f fd) (m:mg "_law_answer"=some (.ref f)):Df K mg "_law_answer" zaG ["_law_what","_law_plan_here","_law_count_here","_law_numbers","_law_lot_here"]:=⟨f,fd,F,m,F.binds fun _ _ _ _ _ _ us hl=>by obtain ⟨a0,a1,a2,a3,a4,rfl⟩:=zqG us hl; rfl⟩
theorem zjo (F:Fun K "_law_lot" "_law_lot" zbT f fd) (m:mg "_law_lot"=some (.ref f)):Df K mg "_law_lot" zbT ["_law_cell_here","_law_least"]:=⟨f,fd,F,m,F.binds fun _ _ _ _ _ _ us hl=>by obtain ⟨a0,a1,rfl⟩:=zb2 us hl; rfl⟩
theorem zgV (F:Fun K "_law_count" "_law_count" zaV f fd) (m:mg "_law_count"=some (.ref f)):Df K mg "_law_count" zaV ["_law_plan_here","_law_cell_here"]:=⟨f,fd,F,m,F.binds fun _ _ _ _ _ _ us hl=>by obtain ⟨a0,a1,rfl⟩:=zb2 us hl; rfl⟩
theorem zi3 (F:Fun K "_law_due" "_law_due" zbL f fd) (m:mg "_law_due"=some (.ref f)):Df K mg "_law_due" zbL ["_law_what","_law_plan_here","_law_count_here","_law_numbers","_law_lot_here"]:=⟨f,fd,F,m,F.binds fun _ _ _ _ _ _ us hl=>by obtain ⟨a0,a1,a2,a3,a4,rfl⟩:=zqG us hl; rfl⟩
theorem zqJ (F:Fun K "law" "law" zd9 f fd) (m:mg "law"=some (.ref f)):Df K mg "law" zd9 ["_law_script"]:=⟨f,fd,F,m,F.binds fun _ _ _ _ _ _ us hl=>by obtain ⟨a0,rfl⟩:=ze6 us hl; rfl⟩
end
theorem zpx {l:PySem.W.OpenLaw} {w:World} {K:PySem.W.Frag} {h:Heap} {mg:Str->Option Value} {fa:Addr} (X:K.In h) (G:h.Ns mainGlobals mg) (hfa:mg "law"=some (.ref fa))
  {f1 f2 f3 f4 f5 f6 f7 f8 f9 f10 f11 f12 f13 f14 f15 f16 f17 f18 f19 f20 f21 f22 f23 f24 f25 f26 f27 f28 f29 f30 f31 f33 f35 f36 f37 f38 f39 f40:Addr} {od1 an1 od2 an2 od3 an3 od4 an4 od5 an5 od6 an6 od7 an7 od8 an8 od9 an9 od10 an10 od11 an11 od12 an12 od13 an13 od14 an14 od15 an15 od16 an16 od17 an17 od18 an18 od19 an19 od20 an20 od21 an21 od22 an22 od23 an23 od24 an24 od25 an25 od26 an26 od27 an27 od28 an28 od29 an29 od30 an30 od31 an31 od33 an33 od35 an35 od36 an36 od37 an37 od38 an38 od39 an39 od40 an40:Option Addr} {sl1 sl2 sl3 sl4 sl5 sl6 sl7 sl8 sl9 sl10 sl11 sl12 sl13 sl14 sl15 sl16 sl17 sl18 sl19 sl20 sl21 sl22 sl23 sl24 sl25 sl26 sl27 sl28 sl29 sl30 sl31 sl33 sl35 sl36 sl37 sl38 sl39 sl40:Array (Option Value)} {oc1 kV1 dc1 pm1 cd1 ct1 oc2 kV2 dc2 pm2 cd2 ct2 oc3 kV3 dc3 pm3 cd3 ct3 oc4 kV4 dc4 pm4 cd4 ct4 oc5 kV5 dc5 pm5 cd5 ct5 oc6 kV6 dc6 pm6 cd6 ct6 oc7 kV7 dc7 pm7 cd7 ct7 oc8 kV8 dc8 pm8 cd8 ct8 oc9 kV9 dc9 pm9 cd9 ct9 oc10 kV10 dc10 pm10 cd10 ct10 oc11 kV11 dc11 pm11 cd11 ct11 oc12 kV12 dc12 pm12 cd12 ct12 oc13 kV13 dc13 pm13 cd13 ct13 oc14 kV14 dc14 pm14 cd14 ct14 oc15 kV15 dc15 pm15 cd15 ct15 oc16 kV16 dc16 pm16 cd16 ct16 oc17 kV17 dc17 pm17 cd17 ct17 oc18 kV18 dc18 pm18 cd18 ct18 oc19 kV19 dc19 pm19 cd19 ct19 oc20 kV20 dc20 pm20 cd20 ct20 oc21 kV21 dc21 pm21 cd21 ct21 oc22 kV22 dc22 pm22 cd22 ct22 oc23 kV23 dc23 pm23 cd23 ct23 oc24 kV24 dc24 pm24 cd24 ct24 oc25 kV25 dc25 pm25 cd25 ct25 oc26 kV26 dc26 pm26 cd26 ct26 oc27 kV27 dc27 pm27 cd27 ct27 oc28 kV28 dc28 pm28 cd28 ct28 oc29 kV29 dc29 pm29 cd29 ct29 oc30 kV30 dc30 pm30 cd30 ct30 oc31 kV31 dc31 pm31 cd31 ct31 oc33 kV33 dc33 pm33 cd33 ct33 oc35 kV35 dc35 pm35 cd35 ct35 oc36 kV36 dc36 pm36 cd36 ct36 oc37 kV37 dc37 pm37 cd37 ct37 oc38 kV38 dc38 pm38 cd38 ct38 oc39 kV39 dc39 pm39 cd39 ct39 oc40 kV40 dc40 pm40 cd40 ct40:Value}
  (q1:QF K "frac" zeY f1 od1 an1 sl1 oc1 kV1 dc1 pm1 cd1 ct1)
  (q2:QF K "times" zdg f2 od2 an2 sl2 oc2 kV2 dc2 pm2 cd2 ct2)
  (q3:QF K "greatest_divisor" zO f3 od3 an3 sl3 oc3 kV3 dc3 pm3 cd3 ct3)
  (q4:QF K "leap" zeG f4 od4 an4 sl4 oc4 kV4 dc4 pm4 cd4 ct4)
  (q5:QF K "goes_on" zbP f5 od5 an5 sl5 oc5 kV5 dc5 pm5 cd5 ct5)
  (q6:QF K "come_to" zbB f6 od6 an6 sl6 oc6 kV6 dc6 pm6 cd6 ct6)
  (q7:QF K "ends" zd3 f7 od7 an7 sl7 oc7 kV7 dc7 pm7 cd7 ct7)
  (q8:QF K "drawn_on" za1 f8 od8 an8 sl8 oc8 kV8 dc8 pm8 cd8 ct8)
  (q9:QF K "check_ends" zas f9 od9 an9 sl9 oc9 kV9 dc9 pm9 cd9 ct9)
  (q10:QF K "led_to" zb7 f10 od10 an10 sl10 oc10 kV10 dc10 pm10 cd10 ct10)
  (q11:QF K "after" zc7 f11 od11 an11 sl11 oc11 kV11 dc11 pm11 cd11 ct11)
  (q12:QF K "scaled" zb6 f12 od12 an12 sl12 oc12 kV12 dc12 pm12 cd12 ct12)
  (q13:QF K "of_count" zbm f13 od13 an13 sl13 oc13 kV13 dc13 pm13 cd13 ct13)
  (q14:QF K "trimmed" zbN f14 od14 an14 sl14 oc14 kV14 dc14 pm14 cd14 ct14)
  (q15:QF K "common_bottom" zae f15 od15 an15 sl15 oc15 kV15 dc15 pm15 cd15 ct15)
  (q16:QF K "tops_over" zaC f16 od16 an16 sl16 oc16 kV16 dc16 pm16 cd16 ct16)
  (q17:QF K "ways_to" zbU f17 od17 an17 sl17 oc17 kV17 dc17 pm17 cd17 ct17)
  (q18:QF K "ways_from" zaX f18 od18 an18 sl18 oc18 kV18 dc18 pm18 cd18 ct18)
  (q19:QF K "odds" zdX f19 od19 an19 sl19 oc19 kV19 dc19 pm19 cd19 ct19)
  (q20:QF K "mean_of" zaQ f20 od20 an20 sl20 oc20 kV20 dc20 pm20 cd20 ct20)
  (q21:QF K "check_telling" zX f21 od21 an21 sl21 oc21 kV21 dc21 pm21 cd21 ct21)
  (q22:QF K "lot_odds" za5 f22 od22 an22 sl22 oc22 kV22 dc22 pm22 cd22 ct22)
  (q23:QF K "lot_mean" za3 f23 od23 an23 sl23 oc23 kV23 dc23 pm23 cd23 ct23)
  (q24:QF K "check_lot" zay f24 od24 an24 sl24 oc24 kV24 dc24 pm24 cd24 ct24)
  (q25:QF K "check_size" zar f25 od25 an25 sl25 oc25 kV25 dc25 pm25 cd25 ct25)
  (q26:QF K "choices" zbR f26 od26 an26 sl26 oc26 kV26 dc26 pm26 cd26 ct26)
  (q27:QF K "falling" zbM f27 od27 an27 sl27 oc27 kV27 dc27 pm27 cd27 ct27)
  (q28:QF K "_law_cell" zbj f28 od28 an28 sl28 oc28 kV28 dc28 pm28 cd28 ct28)
  (q29:QF K "_law_digits" zax f29 od29 an29 sl29 oc29 kV29 dc29 pm29 cd29 ct29)
  (q30:QF K "_law_mixes" zaU f30 od30 an30 sl30 oc30 kV30 dc30 pm30 cd30 ct30)
  (q31:QF K "_law_plan" zaH f31 od31 an31 sl31 oc31 kV31 dc31 pm31 cd31 ct31)
  (q33:QF K "_law_ends" zaM f33 od33 an33 sl33 oc33 kV33 dc33 pm33 cd33 ct33)
  (q35:QF K "_law_word" zbn f35 od35 an35 sl35 oc35 kV35 dc35 pm35 cd35 ct35)
  (q36:QF K "_law_answer" zaG f36 od36 an36 sl36 oc36 kV36 dc36 pm36 cd36 ct36)
  (q37:QF K "_law_lot" zbT f37 od37 an37 sl37 oc37 kV37 dc37 pm37 cd37 ct37)
  (q38:QF K "_law_count" zaV f38 od38 an38 sl38 oc38 kV38 dc38 pm38 cd38 ct38)
  (q39:QF K "_law_due" zbL f39 od39 an39 sl39 oc39 kV39 dc39 pm39 cd39 ct39)
  (q40:QF K "law" zd9 f40 od40 an40 sl40 oc40 kV40 dc40 pm40 cd40 ct40)
  {tLONG:Tok} (aLONG:PySem.W.nsIn K mainGlobals "LONG"=some (some (.int 4000 tLONG)))
  {tWINDOW:Tok} (aWINDOW:PySem.W.nsIn K mainGlobals "WINDOW"=some (some (.int 240 tWINDOW)))
  {tSHED:Tok} (aSHED:PySem.W.nsIn K mainGlobals "SHED"=some (some (.int 120 tSHED)))
  {pNOUGHT:Addr} {odNOUGHT:Option Addr} {slNOUGHT:Array (Option Value)} {nNOUGHT:Nat} {tNOUGHT0 tNOUGHT1:Tok} (aNOUGHT:PySem.W.nsIn K mainGlobals "NOUGHT"=some (some (.ref pNOUGHT))) (lNOUGHT:K.lookup pNOUGHT=some ⟨.type "tuple",odNOUGHT,.seq #[.int (0) tNOUGHT0,.int (1) tNOUGHT1] nNOUGHT,slNOUGHT⟩)
  {tMOST_PIECES:Tok} (aMOST_PIECES:PySem.W.nsIn K mainGlobals "MOST_PIECES"=some (some (.int 200 tMOST_PIECES)))
  (z_len:PySem.W.nsIn K mainGlobals "len"=some none)
  (z_range:PySem.W.nsIn K mainGlobals "range"=some none)
  (z_isinstance:PySem.W.nsIn K mainGlobals "isinstance"=some none)
  (z_max:PySem.W.nsIn K mainGlobals "max"=some none)
  (z_min:PySem.W.nsIn K mainGlobals "min"=some none)
  (z_int:PySem.W.nsIn K mainGlobals "int"=some none)
  (z_bool:PySem.W.nsIn K mainGlobals "bool"=some none)
  (z_tuple:PySem.W.nsIn K mainGlobals "tuple"=some none)
  (z_list:PySem.W.nsIn K mainGlobals "list"=some none)
  (z_abs:PySem.W.nsIn K mainGlobals "abs"=some none)
  (z_str:PySem.W.nsIn K mainGlobals "str"=some none)
  (z_sum:PySem.W.nsIn K mainGlobals "sum"=some none)
  (z_sorted:PySem.W.nsIn K mainGlobals "sorted"=some none)
  (z_reversed:PySem.W.nsIn K mainGlobals "reversed"=some none)
  (z_enumerate:PySem.W.nsIn K mainGlobals "enumerate"=some none)
  (z_set:PySem.W.nsIn K mainGlobals "set"=some none)
  (z_all:PySem.W.nsIn K mainGlobals "all"=some none)
  (z_zip:PySem.W.nsIn K mainGlobals "zip"=some none)
  (z_any:PySem.W.nsIn K mainGlobals "any"=some none)
  (ct:cstTab=[(pNOUGHT,[V.int (0),V.int (1)])])
  {cNoLot:Addr} (aNoLot:PySem.W.nsIn K mainGlobals "NoLot"=some (some (.ref cNoLot)))
  (qxNoLot:PySem.W.excIn (offC K) cNoLot VE "ValueError.__new__"=true)
  {cNoEnd:Addr} (aNoEnd:PySem.W.nsIn K mainGlobals "NoEnd"=some (some (.ref cNoEnd)))
  (qxNoEnd:PySem.W.excIn (offC K) cNoEnd VE "ValueError.__new__"=true)
  {cNoTelling:Addr} (aNoTelling:PySem.W.nsIn K mainGlobals "NoTelling"=some (some (.ref cNoTelling)))
  (qxNoTelling:PySem.W.excIn (offC K) cNoTelling VE "ValueError.__new__"=true)
  {cL:Addr} (aL:PySem.W.nsIn K mainGlobals "LotError"=some (some (.ref cL)))
  (zE:PySem.W.nsIn K mainGlobals "ValueError"=some none)
  (qc:clsB (offC K) cL CSX TSX=true)
  :CstOk K /\ ∃ fd:FuncData,(∀ (s:Shared) (v:Value),BindsTo s fd ⟨[v],[]⟩ [("_law_script",v)]) /\ ∀ base:Heap,(offC K).In base->base.Ns mainGlobals mg->FnOk l.prog w (offC K) mg base CX0 8 fa fd ["_law_script"] (spD (offC K) 1 zi5):=by
 have e:=hfa.symm.trans (PySem.W.mg_of X G q40.a)
 cases e
 have C:CstOk K:=⟨(fun p xs m=>by rw [ct] at m ⊢; simp only [List.mem_cons,List.not_mem_nil,or_false,Prod.mk.injEq] at m; rcases m with ⟨rfl,rfl⟩ <;> simp [List.lookup_cons, *]),(fun p xs m=>by have m:=znm m; rw [ct] at m; simp only [List.mem_cons,List.not_mem_nil,or_false,Prod.mk.injEq] at m; rcases m with ⟨rfl,rfl⟩ <;> first | exact ⟨_,_,_,_,lNOUGHT,(by show 2<=sizeLine; decide),(.cons ⟨_,rfl⟩ (.cons ⟨_,rfl⟩ .nil))⟩)⟩
 have d_frac:Df (offC K) mg "frac" zeY ["top","bottom"]:=zok (C.func (zT (st:=zeY) q1.l q1.c q1.k)) (PySem.W.mg_of X G q1.a)
 have d_times:Df (offC K) mg "times" zdg ["one","other"]:=zmF (C.func (zT (st:=zdg) q2.l q2.c q2.k)) (PySem.W.mg_of X G q2.a)
 have d_greatest_divisor:Df (offC K) mg "greatest_divisor" zO ["one","other"]:=zc5 (C.func (zT (st:=zO) q3.l q3.c q3.k)) (PySem.W.mg_of X G q3.a)
 have d_leap:Df (offC K) mg "leap" zeG ["one","other"]:=zoD (C.func (zT (st:=zeG) q4.l q4.c q4.k)) (PySem.W.mg_of X G q4.a)
 have d_goes_on:Df (offC K) mg "goes_on" zbP ["plan","count"]:=zjt (C.func (zT (st:=zbP) q5.l q5.c q5.k)) (PySem.W.mg_of X G q5.a)
 have d_come_to:Df (offC K) mg "come_to" zbB ["plan"]:=zjx (C.func (zT (st:=zbB) q6.l q6.c q6.k)) (PySem.W.mg_of X G q6.a)
 have d_ends:Df (offC K) mg "ends" zd3 ["plan"]:=zoy (C.func (zT (st:=zd3) q7.l q7.c q7.k)) (PySem.W.mg_of X G q7.a)
 have d_drawn_on:Df (offC K) mg "drawn_on" za1 ["plan"]:=zhX (C.func (zT (st:=za1) q8.l q8.c q8.k)) (PySem.W.mg_of X G q8.a)
 have d_check_ends:Df (offC K) mg "check_ends" zas ["plan","counts"]:=zfY (C.func (zT (st:=zas) q9.l q9.c q9.k)) (PySem.W.mg_of X G q9.a)
 have d_led_to:Df (offC K) mg "led_to" zb7 ["place"]:=zjU (C.func (zT (st:=zb7) q10.l q10.c q10.k)) (PySem.W.mg_of X G q10.a)
 have d_after:Df (offC K) mg "after" zc7 ["count","sign"]:=znd (C.func (zT (st:=zc7) q11.l q11.c q11.k)) (PySem.W.mg_of X G q11.a)
 have d_scaled:Df (offC K) mg "scaled" zb6 ["one","share"]:=zkQ (C.func (zT (st:=zb6) q12.l q12.c q12.k)) (PySem.W.mg_of X G q12.a)
 have d_of_count:Df (offC K) mg "of_count" zbm ["bad","good"]:=zhu (C.func (zT (st:=zbm) q13.l q13.c q13.k)) (PySem.W.mg_of X G q13.a)
 have d_trimmed:Df (offC K) mg "trimmed" zbN ["fractions"]:=zjO (C.func (zT (st:=zbN) q14.l q14.c q14.k)) (PySem.W.mg_of X G q14.a)
 have d_common_bottom:Df (offC K) mg "common_bottom" zae ["fractions"]:=zd7 (C.func (zT (st:=zae) q15.l q15.c q15.k)) (PySem.W.mg_of X G q15.a)
 have d_tops_over:Df (offC K) mg "tops_over" zaC ["fractions","bottom"]:=zg0 (C.func (zT (st:=zaC) q16.l q16.c q16.k)) (PySem.W.mg_of X G q16.a)
 have d_ways_to:Df (offC K) mg "ways_to" zbU ["plan","count"]:=zjB (C.func (zT (st:=zbU) q17.l q17.c q17.k)) (PySem.W.mg_of X G q17.a)
 have d_ways_from:Df (offC K) mg "ways_from" zaX ["plan","beginning"]:=zgh (C.func (zT (st:=zaX) q18.l q18.c q18.k)) (PySem.W.mg_of X G q18.a)
 have d_odds:Df (offC K) mg "odds" zdX ["plan","end"]:=zoR (C.func (zT (st:=zdX) q19.l q19.c q19.k)) (PySem.W.mg_of X G q19.a)
 have d_mean_of:Df (offC K) mg "mean_of" zaQ ["plan","numbers"]:=zjk (C.func (zT (st:=zaQ) q20.l q20.c q20.k)) (PySem.W.mg_of X G q20.a)
 have d_check_telling:Df (offC K) mg "check_telling" zX ["plan","numbers"]:=zd5 (C.func (zT (st:=zX) q21.l q21.c q21.k)) (PySem.W.mg_of X G q21.a)
 have d_lot_odds:Df (offC K) mg "lot_odds" za5 ["plan","end","size","bad"]:=zie (C.func (zT (st:=za5) q22.l q22.c q22.k)) (PySem.W.mg_of X G q22.a)
 have d_lot_mean:Df (offC K) mg "lot_mean" za3 ["plan","numbers","size","bad"]:=zhx (C.func (zT (st:=za3) q23.l q23.c q23.k)) (PySem.W.mg_of X G q23.a)
 have d_check_lot:Df (offC K) mg "check_lot" zay ["plan","size","bad"]:=zgd (C.func (zT (st:=zay) q24.l q24.c q24.k)) (PySem.W.mg_of X G q24.a)
 have d_check_size:Df (offC K) mg "check_size" zar ["plan","size"]:=zfI (C.func (zT (st:=zar) q25.l q25.c q25.k)) (PySem.W.mg_of X G q25.a)
 have d_choices:Df (offC K) mg "choices" zbR ["count","size","bad"]:=ziY (C.func (zT (st:=zbR) q26.l q26.c q26.k)) (PySem.W.mg_of X G q26.a)
 have d_falling:Df (offC K) mg "falling" zbM ["number","many"]:=zi7 (C.func (zT (st:=zbM) q27.l q27.c q27.k)) (PySem.W.mg_of X G q27.a)
 have d_law_cell:Df (offC K) mg "_law_cell" zbj ["_law_script","_law_k"]:=zhz (C.func (zT (st:=zbj) q28.l q28.c q28.k)) (PySem.W.mg_of X G q28.a)
 have d_law_digits:Df (offC K) mg "_law_digits" zax ["_law_cell_here","_law_base","_law_many"]:=zf5 (C.func (zT (st:=zax) q29.l q29.c q29.k)) (PySem.W.mg_of X G q29.a)
 have d_law_mixes:Df (offC K) mg "_law_mixes" zaU ["_law_cell_here","_law_base","_law_many"]:=zg2 (C.func (zT (st:=zaU) q30.l q30.c q30.k)) (PySem.W.mg_of X G q30.a)
 have d_law_plan:Df (offC K) mg "_law_plan" zaH ["_law_cell_here","_law_most_here"]:=zhH (C.func (zT (st:=zaH) q31.l q31.c q31.k)) (PySem.W.mg_of X G q31.a)
 have d_law_ends:Df (offC K) mg "_law_ends" zaM ["_law_plan_here"]:=zhY (C.func (zT (st:=zaM) q33.l q33.c q33.k)) (PySem.W.mg_of X G q33.a)
 have d_law_word:Df (offC K) mg "_law_word" zbn ["_law_e"]:=zhy (C.func (zT (st:=zbn) q35.l q35.c q35.k)) (PySem.W.mg_of X G q35.a)
 have d_law_answer:Df (offC K) mg "_law_answer" zaG ["_law_what","_law_plan_here","_law_count_here","_law_numbers","_law_lot_here"]:=zfW (C.func (zT (st:=zaG) q36.l q36.c q36.k)) (PySem.W.mg_of X G q36.a)
 have d_law_lot:Df (offC K) mg "_law_lot" zbT ["_law_cell_here","_law_least"]:=zjo (C.func (zT (st:=zbT) q37.l q37.c q37.k)) (PySem.W.mg_of X G q37.a)
 have d_law_count:Df (offC K) mg "_law_count" zaV ["_law_plan_here","_law_cell_here"]:=zgV (C.func (zT (st:=zaV) q38.l q38.c q38.k)) (PySem.W.mg_of X G q38.a)
 have d_law_due:Df (offC K) mg "_law_due" zbL ["_law_what","_law_plan_here","_law_count_here","_law_numbers","_law_lot_here"]:=zi3 (C.func (zT (st:=zbL) q39.l q39.c q39.k)) (PySem.W.mg_of X G q39.a)
 have d_law:Df (offC K) mg "law" zd9 ["_law_script"]:=zqJ (C.func (zT (st:=zd9) q40.l q40.c q40.k)) (PySem.W.mg_of X G q40.a)
 have C_LONG:Cn mg "LONG" (.int 4000):=⟨_,PySem.W.mg_of X G aLONG,⟨_,rfl⟩⟩
 have C_WINDOW:Cn mg "WINDOW" (.int 240):=⟨_,PySem.W.mg_of X G aWINDOW,⟨_,rfl⟩⟩
 have C_SHED:Cn mg "SHED" (.int 120):=⟨_,PySem.W.mg_of X G aSHED,⟨_,rfl⟩⟩
 have C_NOUGHT:Cn mg "NOUGHT" (.ref pNOUGHT):=⟨_,PySem.W.mg_of X G aNOUGHT,rfl⟩
 have M_NOUGHT:(pNOUGHT,[V.int (0),V.int (1)])∈cstTab:=by rw [ct]; simp
 have C_MOST_PIECES:Cn mg "MOST_PIECES" (.int 200):=⟨_,PySem.W.mg_of X G aMOST_PIECES,⟨_,rfl⟩⟩
 have B:Bs mg:=⟨PySem.W.mg_none_of X G z_len,PySem.W.mg_none_of X G z_range,PySem.W.mg_none_of X G z_isinstance,PySem.W.mg_none_of X G z_max,PySem.W.mg_none_of X G z_min,PySem.W.mg_none_of X G z_int,PySem.W.mg_none_of X G z_bool,PySem.W.mg_none_of X G z_tuple,PySem.W.mg_none_of X G z_list,PySem.W.mg_none_of X G z_abs,PySem.W.mg_none_of X G z_str,PySem.W.mg_none_of X G z_sum,PySem.W.mg_none_of X G z_sorted,PySem.W.mg_none_of X G z_reversed,PySem.W.mg_none_of X G z_enumerate,PySem.W.mg_none_of X G z_set,PySem.W.mg_none_of X G z_all,PySem.W.mg_none_of X G z_zip,PySem.W.mg_none_of X G z_any⟩
 have X_NoLot:∃ C tl,ExC (offC K) mg "NoLot" C VE tl "ValueError.__new__":=⟨_,zlJ (PySem.W.mg_of X G aNoLot) qxNoLot⟩
 have X_NoEnd:∃ C tl,ExC (offC K) mg "NoEnd" C VE tl "ValueError.__new__":=⟨_,zlJ (PySem.W.mg_of X G aNoEnd) qxNoEnd⟩
 have X_NoTelling:∃ C tl,ExC (offC K) mg "NoTelling" C VE tl "ValueError.__new__":=⟨_,zlJ (PySem.W.mg_of X G aNoTelling) qxNoTelling⟩
 have mL:=PySem.W.mg_of X G aL
 have zVE:=PySem.W.mg_none_of X G zE
 have CT:=zoH (zkU X) G qc
 have kVE:=zot qc
 have CE:=zoh (zkU X) G qc
 refine ⟨C,PySem.W.fnOf "law" "law" (defArgs zd9) (defBody zd9) (defScope zd9) .none kV40 dc40 pm40 an40 cd40 ct40,fun s v=>.of_eq rfl,fun base _ _=>?_⟩
 have D_leap:=zoK (P:=l.prog) (w:=w) (base:=base) d_leap B C_WINDOW C_SHED
 have D_greatest_divisor:=zc2 (P:=l.prog) (w:=w) (base:=base) d_greatest_divisor B C_LONG D_leap
 have D_frac:=zn7 (P:=l.prog) (w:=w) (base:=base) d_frac B D_greatest_divisor
 have D_times:=zmG (P:=l.prog) (w:=w) (base:=base) d_times B D_frac
 have D_goes_on:=zjD (P:=l.prog) (w:=w) (base:=base) d_goes_on B
 have D_led_to:=zl5 (P:=l.prog) (w:=w) (base:=base) d_led_to B
 have D_come_to:=zjI (P:=l.prog) (w:=w) (base:=base) d_come_to B D_led_to
 have D_ends:=zor (P:=l.prog) (w:=w) (base:=base) d_ends B D_come_to D_goes_on
 have D_drawn_on:=zho (P:=l.prog) (w:=w) (base:=base) d_drawn_on B
 have DR_check_ends:=ze8 (P:=l.prog) (w:=w) (base:=base) d_check_ends B X_NoEnd D_ends
 have D_check_ends:=zf3 (P:=l.prog) (w:=w) (base:=base) d_check_ends B D_ends
 have D_after:=zmY (P:=l.prog) (w:=w) (base:=base) d_after B
 have D_trimmed:=zjq (P:=l.prog) (w:=w) (base:=base) d_trimmed B C_NOUGHT M_NOUGHT
 have D_scaled:=zlc (P:=l.prog) (w:=w) (base:=base) d_scaled B D_times D_trimmed
 have D_of_count:=zif (P:=l.prog) (w:=w) (base:=base) d_of_count B C_NOUGHT M_NOUGHT
 have D_common_bottom:=zd6 (P:=l.prog) (w:=w) (base:=base) d_common_bottom B D_greatest_divisor
 have D_tops_over:=zgX (P:=l.prog) (w:=w) (base:=base) d_tops_over B
 have D_ways_from:=zgm (P:=l.prog) (w:=w) (base:=base) d_ways_from B D_after D_drawn_on
 have D_ways_to:=zjd (P:=l.prog) (w:=w) (base:=base) d_ways_to B D_ways_from
 have DR_odds:=zmJ (P:=l.prog) (w:=w) (base:=base) d_odds B DR_check_ends D_of_count D_scaled D_ways_to
 have D_odds:=zn2 (P:=l.prog) (w:=w) (base:=base) d_odds B D_check_ends D_of_count D_scaled D_ways_to
 have DR_check_telling:=zdP (P:=l.prog) (w:=w) (base:=base) d_check_telling B X_NoTelling D_ends
 have D_check_telling:=zd8 (P:=l.prog) (w:=w) (base:=base) d_check_telling B D_ends
 have DR_mean_of:=zh0 (P:=l.prog) (w:=w) (base:=base) d_mean_of B DR_check_telling D_common_bottom D_ends D_frac D_of_count D_tops_over D_trimmed D_ways_from
 have D_mean_of:=zjN (P:=l.prog) (w:=w) (base:=base) d_mean_of B D_check_telling D_common_bottom D_ends D_frac D_of_count D_tops_over D_trimmed D_ways_from
 have DR_check_size:=ze3 (P:=l.prog) (w:=w) (base:=base) d_check_size B C_MOST_PIECES X_NoLot
 have D_check_size:=zf6 (P:=l.prog) (w:=w) (base:=base) d_check_size B C_MOST_PIECES
 have DR_check_lot:=zfU (P:=l.prog) (w:=w) (base:=base) d_check_lot B X_NoLot DR_check_size
 have D_check_lot:=zgg (P:=l.prog) (w:=w) (base:=base) d_check_lot B D_check_size
 have D_falling:=zjm (P:=l.prog) (w:=w) (base:=base) d_falling B
 have D_choices:=zi1 (P:=l.prog) (w:=w) (base:=base) d_choices B D_falling
 have DR_lot_odds:=zgt (P:=l.prog) (w:=w) (base:=base) d_lot_odds B DR_check_ends DR_check_lot D_choices D_falling D_frac D_ways_to
 have D_lot_odds:=zhv (P:=l.prog) (w:=w) (base:=base) d_lot_odds B D_check_ends D_check_lot D_choices D_falling D_frac D_ways_to
 have DR_lot_mean:=zhb (P:=l.prog) (w:=w) (base:=base) d_lot_mean B DR_check_lot DR_check_telling D_choices D_common_bottom D_ends D_falling D_frac D_tops_over D_ways_from
 have D_lot_mean:=zhl (P:=l.prog) (w:=w) (base:=base) d_lot_mean B D_check_lot D_check_telling D_choices D_common_bottom D_ends D_falling D_frac D_tops_over D_ways_from
 have D_law_cell:=zhp (P:=l.prog) (w:=w) (base:=base) d_law_cell B
 have D_law_digits:=zfQ (P:=l.prog) (w:=w) (base:=base) d_law_digits B
 have D_law_mixes:=zgO (P:=l.prog) (w:=w) (base:=base) d_law_mixes B
 have D_law_plan:=zhV (P:=l.prog) (w:=w) (base:=base) d_law_plan B D_law_digits D_law_mixes
 have D_law_ends:=zic (P:=l.prog) (w:=w) (base:=base) d_law_ends B
 have DW_law_word:=zgY (P:=l.prog) (w:=w) (base:=base) d_law_word B CT zVE kVE
 have D_law_answer:=zfy (P:=l.prog) (w:=w) (base:=base) d_law_answer B mL CE DW_law_word DR_lot_mean DR_lot_odds DR_mean_of DR_odds
 have D_law_lot:=zjw (P:=l.prog) (w:=w) (base:=base) d_law_lot B
 have D_law_count:=zhf (P:=l.prog) (w:=w) (base:=base) d_law_count B D_law_ends
 have D_law_due:=zjL (P:=l.prog) (w:=w) (base:=base) d_law_due B D_law_ends
 exact zqd (P:=l.prog) (w:=w) (base:=base) (C.func (zT (st:=zd9) q40.l q40.c q40.k)) B D_law_answer D_law_cell D_law_count D_law_due D_law_ends D_law_lot D_law_plan
theorem walk {l:PySem.W.OpenLaw} {q:Program} {loose:List Str} {XP:(Str->Option Value)->Heap->Prop} {YP:World->Heap->Prop} {d:DefRec} {K:Params->PySem.W.Frag} (hn:l.most=some 63) (hdf:d.params.defaults=[])
  (hY:∀ (w:World) (h:Heap),YP w h->(K w.params).In h)
  (F:∀ (w:World) (mg:Str->Option Value) (fa:Addr) (h:Heap),(K w.params).In h->h.Ns mainGlobals mg->mg d.name=some (.ref fa)->
   CstOk (K w.params) /\ ∃ fd:FuncData,(∀ (s:Shared) (u:Value),BindsTo s fd ⟨[u],[]⟩ [("_law_script",u)]) /\ ∀ base:Heap,(offC (K w.params)).In base->base.Ns mainGlobals mg->FnOk l.prog w (offC (K w.params)) mg base CX0 8 fa fd ["_law_script"] (spD (offC (K w.params)) 1 zi5)):
  PySem.W.WalkO q loose XP YP l.row.toRowW d [] (fun f vs=>PySem.call f vs):=
 L2.zm2 (n:=63) (k:=8) (x:="_law_script") (CX:=fun _=>CX0) (sp:=fun w=>spD (offC (K w.params)) 1 zi5) hn (by decide) hdf ⟨rfl,by decide,by decide⟩ hY F (fun _ _ a ns hl hS hT=>⟨rfl,[],[.list (ns.map PyData.int)],.bool true,⟨fun _ z=>by simp at z,hT⟩,by rw [znv]; exact .cons (.lst hS (HDs.ints ns)) .nil,zmi ns hl,fun v H' _ h=>by cases h; rfl⟩) fun _ _ _ _ _ z=>z
end MyLaw
open PySem PySem.W PyProof.Rows
set_option tactic.hygienic true
set_option maxRecDepth 100000 in
set_option maxHeartbeats 0 in
theorem PySem.Challenge.cw_lotdraw_k34_odds_refused_holds : PySem.Challenge.rw_lotdraw_k34_odds_refused.Holds := by
 w_on; o_law
 refine PySem.W.holds_open (q:=MyLaw.viewP) (loose:=[]) (Xt:=MyLaw.hpX) (XP:=XL MyLaw.viewP []) (Yf:=Hook.obs (kHook MyLaw.hpK MyLaw.hpA MyLaw.zos)) (Ya:=Hook.val (kHook MyLaw.hpK MyLaw.hpA MyLaw.zos)) (YP:=Hook.says (kHook MyLaw.hpK MyLaw.hpA MyLaw.zos)) (N:=5742) (Hd.zlq ?h1 rfl (fun _=>rfl) MyLaw.zoq MyLaw.zoJ) (Hook.of _) (Hook.keeps _) (fun s e=>xl_of s (Bool.and_eq_true_iff.mp e).1) XL.keeps (by rfl) (by rfl) (by rfl) (fun s e=>recFacts_of (Bool.and_eq_true_iff.mp e).2) rfl (by first | assumption | decide +kernel) (by decide +kernel) ⟨rfl,rfl,rfl,rfl,rfl,by decide +kernel⟩ ?hw ?hc
 case h1=>kernel_rfl
 case hw=>w_witness2
 k_fill
 refine MyLaw.walk (l:=PySem.Challenge.rw_lotdraw_k34_odds_refused) rfl rfl (fun w h Y=>PySem.W.kIn_of Y) ?F
 case F=>
  intro w mg fa h KX G hmg
  refine' MyLaw.zpx KX G hmg ?q1 ?q2 ?q3 ?q4 ?q5 ?q6 ?q7 ?q8 ?q9 ?q10 ?q11 ?q12 ?q13 ?q14 ?q15 ?q16 ?q17 ?q18 ?q19 ?q20 ?q21 ?q22 ?q23 ?q24 ?q25 ?q26 ?q27 ?q28 ?q29 ?q30 ?q31 ?q33 ?q35 ?q36 ?q37 ?q38 ?q39 ?q40 ?aLONG ?aWINDOW ?aSHED ?aNOUGHT ?lNOUGHT ?aMOST_PIECES ?z_len ?z_range ?z_isinstance ?z_max ?z_min ?z_int ?z_bool ?z_tuple ?z_list ?z_abs ?z_str ?z_sum ?z_sorted ?z_reversed ?z_enumerate ?z_set ?z_all ?z_zip ?z_any ?ct ?aNoLot ?qxNoLot ?aNoEnd ?qxNoEnd ?aNoTelling ?qxNoTelling ?aL ?zE ?qc
  (case q1=>refine' ⟨?x,?y,?z,?t⟩; (case x=>k_is); (case y=>k_is); (case z=>k_is); (case t=>k_is))
  (case q2=>refine' ⟨?x,?y,?z,?t⟩; (case x=>k_is); (case y=>k_is); (case z=>k_is); (case t=>k_is))
  (case q3=>refine' ⟨?x,?y,?z,?t⟩; (case x=>k_is); (case y=>k_is); (case z=>k_is); (case t=>k_is))
  (case q4=>refine' ⟨?x,?y,?z,?t⟩; (case x=>k_is); (case y=>k_is); (case z=>k_is); (case t=>k_is))
  (case q5=>refine' ⟨?x,?y,?z,?t⟩; (case x=>k_is); (case y=>k_is); (case z=>k_is); (case t=>k_is))
  (case q6=>refine' ⟨?x,?y,?z,?t⟩; (case x=>k_is); (case y=>k_is); (case z=>k_is); (case t=>k_is))
  (case q7=>refine' ⟨?x,?y,?z,?t⟩; (case x=>k_is); (case y=>k_is); (case z=>k_is); (case t=>k_is))
  (case q8=>refine' ⟨?x,?y,?z,?t⟩; (case x=>k_is); (case y=>k_is); (case z=>k_is); (case t=>k_is))
  (case q9=>refine' ⟨?x,?y,?z,?t⟩; (case x=>k_is); (case y=>k_is); (case z=>k_is); (case t=>k_is))
  (case q10=>refine' ⟨?x,?y,?z,?t⟩; (case x=>k_is); (case y=>k_is); (case z=>k_is); (case t=>k_is))
  (case q11=>refine' ⟨?x,?y,?z,?t⟩; (case x=>k_is); (case y=>k_is); (case z=>k_is); (case t=>k_is))
  (case q12=>refine' ⟨?x,?y,?z,?t⟩; (case x=>k_is); (case y=>k_is); (case z=>k_is); (case t=>k_is))
  (case q13=>refine' ⟨?x,?y,?z,?t⟩; (case x=>k_is); (case y=>k_is); (case z=>k_is); (case t=>k_is))
  (case q14=>refine' ⟨?x,?y,?z,?t⟩; (case x=>k_is); (case y=>k_is); (case z=>k_is); (case t=>k_is))
  (case q15=>refine' ⟨?x,?y,?z,?t⟩; (case x=>k_is); (case y=>k_is); (case z=>k_is); (case t=>k_is))
  (case q16=>refine' ⟨?x,?y,?z,?t⟩; (case x=>k_is); (case y=>k_is); (case z=>k_is); (case t=>k_is))
  (case q17=>refine' ⟨?x,?y,?z,?t⟩; (case x=>k_is); (case y=>k_is); (case z=>k_is); (case t=>k_is))
  (case q18=>refine' ⟨?x,?y,?z,?t⟩; (case x=>k_is); (case y=>k_is); (case z=>k_is); (case t=>k_is))
  (case q19=>refine' ⟨?x,?y,?z,?t⟩; (case x=>k_is); (case y=>k_is); (case z=>k_is); (case t=>k_is))
  (case q20=>refine' ⟨?x,?y,?z,?t⟩; (case x=>k_is); (case y=>k_is); (case z=>k_is); (case t=>k_is))
  (case q21=>refine' ⟨?x,?y,?z,?t⟩; (case x=>k_is); (case y=>k_is); (case z=>k_is); (case t=>k_is))
  (case q22=>refine' ⟨?x,?y,?z,?t⟩; (case x=>k_is); (case y=>k_is); (case z=>k_is); (case t=>k_is))
  (case q23=>refine' ⟨?x,?y,?z,?t⟩; (case x=>k_is); (case y=>k_is); (case z=>k_is); (case t=>k_is))
  (case q24=>refine' ⟨?x,?y,?z,?t⟩; (case x=>k_is); (case y=>k_is); (case z=>k_is); (case t=>k_is))
  (case q25=>refine' ⟨?x,?y,?z,?t⟩; (case x=>k_is); (case y=>k_is); (case z=>k_is); (case t=>k_is))
  (case q26=>refine' ⟨?x,?y,?z,?t⟩; (case x=>k_is); (case y=>k_is); (case z=>k_is); (case t=>k_is))
  (case q27=>refine' ⟨?x,?y,?z,?t⟩; (case x=>k_is); (case y=>k_is); (case z=>k_is); (case t=>k_is))
  (case q28=>refine' ⟨?x,?y,?z,?t⟩; (case x=>k_is); (case y=>k_is); (case z=>k_is); (case t=>k_is))
  (case q29=>refine' ⟨?x,?y,?z,?t⟩; (case x=>k_is); (case y=>k_is); (case z=>k_is); (case t=>k_is))
  (case q30=>refine' ⟨?x,?y,?z,?t⟩; (case x=>k_is); (case y=>k_is); (case z=>k_is); (case t=>k_is))
  (case q31=>refine' ⟨?x,?y,?z,?t⟩; (case x=>k_is); (case y=>k_is); (case z=>k_is); (case t=>k_is))
  (case q33=>refine' ⟨?x,?y,?z,?t⟩; (case x=>k_is); (case y=>k_is); (case z=>k_is); (case t=>k_is))
  (case q35=>refine' ⟨?x,?y,?z,?t⟩; (case x=>k_is); (case y=>k_is); (case z=>k_is); (case t=>k_is))
  (case q36=>refine' ⟨?x,?y,?z,?t⟩; (case x=>k_is); (case y=>k_is); (case z=>k_is); (case t=>k_is))
  (case q37=>refine' ⟨?x,?y,?z,?t⟩; (case x=>k_is); (case y=>k_is); (case z=>k_is); (case t=>k_is))
  (case q38=>refine' ⟨?x,?y,?z,?t⟩; (case x=>k_is); (case y=>k_is); (case z=>k_is); (case t=>k_is))
  (case q39=>refine' ⟨?x,?y,?z,?t⟩; (case x=>k_is); (case y=>k_is); (case z=>k_is); (case t=>k_is))
  (case q40=>refine' ⟨?x,?y,?z,?t⟩; (case x=>k_is); (case y=>k_is); (case z=>k_is); (case t=>k_is))
  (case aLONG=>k_is)
  (case aWINDOW=>k_is)
  (case aSHED=>k_is)
  (case aNOUGHT=>k_is)
  (case lNOUGHT=>k_is)
  (case aMOST_PIECES=>k_is)
  (case z_len=>kernel_rfl)
  (case z_range=>kernel_rfl)
  (case z_isinstance=>kernel_rfl)
  (case z_max=>kernel_rfl)
  (case z_min=>kernel_rfl)
  (case z_int=>kernel_rfl)
  (case z_bool=>kernel_rfl)
  (case z_tuple=>kernel_rfl)
  (case z_list=>kernel_rfl)
  (case z_abs=>kernel_rfl)
  (case z_str=>kernel_rfl)
  (case z_sum=>kernel_rfl)
  (case z_sorted=>kernel_rfl)
  (case z_reversed=>kernel_rfl)
  (case z_enumerate=>kernel_rfl)
  (case z_set=>kernel_rfl)
  (case z_all=>kernel_rfl)
  (case z_zip=>kernel_rfl)
  (case z_any=>kernel_rfl)
  (case ct=>rfl)
  (case aNoLot=>k_is)
  (case qxNoLot=>kernel_rfl)
  (case aNoEnd=>k_is)
  (case qxNoEnd=>kernel_rfl)
  (case aNoTelling=>k_is)
  (case qxNoTelling=>kernel_rfl)
  (case aL=>k_is)
  (case zE=>kernel_rfl)
  (case qc=>kernel_rfl)
